import Derived.Test.YtfiffndhehkapaaGreatDoorPack4
import Derived.Shelf.Spec.SlicesInsertGrow
import Derived.Deep.DeepAppendWide
import Derived.Test.YtfiffndhehkapaaGreatDoorPack1
import Derived.Test.YtfiffndhehkapaaGreatDoorPack3
import Derived.Test.YtfiffndhehkapaaGreatDoorPack2
import Derived.Deep.QuietTactic
import Derived.BigQuiet
import Derived.Laws.StructEq
namespace Go.Proofs.YtfiffndhehkapaaGreatDoor
set_option maxHeartbeats 4000000
set_option maxRecDepth 100000
open Go.RowKit
theorem RdE.one (w:World) (e:Ent) (he:Zor e):RdE (w.alloc (.cells (Zfz e) 86)) (.slice (some ⟨w.heap.size,0,none⟩) 1 1) [e]:=by
 have h:=Zbs.ofRow (w:=w.alloc (.cells (Zfz e) 86)) (B:=w.heap.size) (g:=w.heap.size) (cap:=1) (l:=[e]) (n:=1) rfl zL (heap_alloc_new w _) zL (by unfold maxLen;decide) rfl (fun j hj=>by
  rw[List.length_singleton] at hj
  match j,hj with
  | 0,_=>rfl
  | 1,_=>rfl
  | 2,_=>rfl)
 exact h.rd (fun x hx=>by rw[List.mem_singleton.1 hx];exact he)
theorem Zmz (l:List Ent) (i:Nat) (hi:i<=l.length) (e:Ent) (f:Nat->Option Value) (h1:∀ j,j<i*3->f j=(Zag l)[j]?) (h2:∀ j,j<3->f (i*3+j)=(Zag [e])[j]?)
 (h3:∀ j,j<(l.length-i)*3->f ((i+1)*3+j)=(Zag (l.drop i))[j]?) (j:Nat) (hj:j<(l.length+1)*3):f j=(Zag (l.take i++(e::l.drop i)))[j]?:=by
 have e1:l.take i++(e::l.drop i)=l.take i++([e]++l.drop i):=rfl
 have l1:(Zag (l.take i)).length=i*3:=by rw[Zaw,List.length_take];congr 1;omega
 have l2:(Zag [e]).length=3:=Zaw [e]
 rw[e1,Zdo,Zdo]
 by_cases g1:j<i*3
 ·rw[List.getElem?_append_left (by omega),h1 j g1,Zfh,List.getElem?_take_of_lt g1]
 ·rw[List.getElem?_append_right (by omega),l1]
  by_cases g2:j<i*3+3
  ·rw[List.getElem?_append_left (by omega),<-h2 (j-i*3) (by omega)]
   congr 1
   omega
  ·rw[List.getElem?_append_right (by omega),l2,<-h3 (j-i*3-3) (by omega)]
   congr 1
   omega
theorem ZdT (l:List Ent) (i:Nat) (hi:i<=l.length) (e:Ent):(l.take i++(e::l.drop i)).length=l.length+1:=by simp;omega
def ZAA (w:World) (B:Nat) (L:List Ent) (x:Ending) (w':World):Prop:=∃ v',x=.returned v'∧Zbs w' B v' L∧Below B w w'
theorem ZqU (v:Value) (l:List Ent) (B:Nat) (w:World) (ho:Zbs w B v l) (hB:B<=w.heap.size) (hlim:l.length<=100000) (e:Ent) (he:Zor e) (I:Int) (hI:I=(l.length:Nat)) (N:Nat) (hN:N=w.heap.size):
 Calls Tryz.prog 89 #[v,.int .i64 I,.slice (some ⟨N,0,none⟩) 1 1] (w.alloc (.cells (Zfz e) 86)) fun x w'=>ZAA w B (l.take l.length++(e::l.drop l.length)) x w':=by
 subst hI hN
 have HE:Hid (l.take l.length++(e::l.drop l.length)=l++[e]):=ZZ (by rw[List.take_length,List.drop_length])
 rw[HE.out]
 have HR:=ZZ (RdE.one w e he)
 have HB0:Hid (∀ X,Below B w (w.alloc X)):=fun X=>(Below.refl _ _).alloc hB X
 have HO:=ZZ (ho.below ((Below.refl w.heap.size w).alloc zL (.cells (Zfz e) 86)) zL)
 have hsz:B<=(w.alloc (.cells (Zfz e) 86)).heap.size:=by simp;omega
 rcases ho.row with ⟨rfl,rfl⟩ | ⟨g,cap,cur,rfl,hBg,hlt,hg,hn,hm,hs,hc⟩
 ·clear ho HE
  go_enter Tryz.func89,Tryz.ntmps89
  go_wp2_with(at_builtin;refine ZcP _ rfl _ _ rfl B _ [] rfl HO.out _ [e] rfl HR.out (by simp) hsz ?_)
  intro v1 W1 ho1 hb1
  have HO1:=ZZ ho1
  have HB1:=ZZ ((HB0.out _).trans hb1)
  clear ho1 hb1
  go_wp2
  go_ret
  exact⟨_,rfl,HO1.out,HB1.out⟩
 ·have hmi:(cap:Int)<=9223372036854775807:=by unfold maxLen at hm;omega
  have hni:(l.length:Int)<=(cap:Int):=by omega
  clear ho HE hc hg hs hm
  by_cases hcl:cap=l.length
  all_goals
   go_enter Tryz.func89,Tryz.ntmps89
   go_wp2_with(at_builtin;refine ZcP _ rfl _ _ rfl B _ l rfl HO.out _ [e] rfl HR.out (by simp;omega) hsz ?_)
   intro v1 W1 ho1 hb1
   have HO1:=ZZ ho1
   have HB1:=ZZ ((HB0.out _).trans hb1)
   clear ho1 hb1
   go_wp2
   go_ret
   exact⟨_,rfl,HO1.out,HB1.out⟩
theorem ZAN (w:World) (g N kA kB:Nat) (hne:N≠g) (la ca lb cb o:Nat) (hsa:w.shape? N=some (86,kA)) (hsb:w.shape? g=some (86,kB)) (hkB:kB≠0) (hfa:∀ k,w.frozen? ⟨N,k,none⟩=false):
 (callFunc 130 #[.slice (some ⟨N,0,none⟩) la ca,.slice (some ⟨g,o,none⟩) lb cb]).run Tryz.prog w=.ok (.value (.bool false)) w:=by
 rw[run_callFunc_extern Tryz.func130 (by kernel_rfl) (by kernel_rfl) (by kernel_rfl) (e:=Extern.SlicesOverlaps.overlaps #[39,39] #[4]) (by kernel_rfl),
  Lib.run_overlaps_apart w 39 4 86 Tryz.underlying39 3 Tryz.sizeOf86 ⟨N,0,none⟩ ⟨g,o,none⟩ la ca lb cb hne _ _ kA kB hsa hsb hkB (hfa 0) (hfa kA)]
 rfl
theorem Zjt:(Tryz.prog.info? 86).map (·.size)=some 3:=by
 obtain⟨i0,hi,hz0,hz1,hz2⟩:=info_parts Zjs
 rw[hi]
 simp[hz1]
theorem Zpd (g cap:Nat) (l:List Ent) (B:Nat) (w:World) (ho:Zbs w B (.slice (some ⟨g,0,none⟩) l.length cap) l) (hB:B<=w.heap.size) (i:Nat) (hi:i<l.length) (hroom:l.length+1<=cap) (e:Ent) (I:Int) (hI:I=(i:Nat)) (N:Nat) (hN:N=w.heap.size):
 Calls Tryz.prog 89 #[.slice (some ⟨g,0,none⟩) l.length cap,.int .i64 I,.slice (some ⟨N,0,none⟩) 1 1] (w.alloc (.cells (Zfz e) 86)) fun x w'=>ZAA w B (l.take i++(e::l.drop i)) x w':=by
 subst hI
 rcases ho.row with ⟨h1,-⟩ | ⟨g',cap',cur,h1,hBg,hlt,hg,hn,hm,hs,hc⟩
 ·cases h1
 injection h1 with h1 _ h3
 injection h1 with h1
 injection h1 with h1
 subst h1 h3
 clear ho
 have hv:(w.alloc (.cells (Zfz e) 86)).heap[N]?=some (.cells (Zfz e) 86 (0,0)):=by rw[hN];exact heap_alloc_new w _
 have hg0:(w.alloc (.cells (Zfz e) 86)).heap[g]?=some (.cells cur 86 (0,0)):=(Below.heap_alloc _ _ _ hlt).trans hg
 have HB0:Hid (Below B w (w.alloc (.cells (Zfz e) 86))):=(Below.refl _ _).alloc hB _
 generalize w.alloc (.cells (Zfz e) 86)=W at *
 have hne:N≠g:=by omega
 have hm':(cap:Int)<=9223372036854775807:=by unfold maxLen at hm;omega
 have hfz:∀ (j:Nat),W.frozen? ⟨g,j,none⟩=false:=fun j=>frozen_of_row W g j _ _ hg0
 have hov:∀ la ca lb cb o,(callFunc 130 #[.slice (some ⟨N,0,none⟩) la ca,.slice (some ⟨g,o,none⟩) lb cb]).run Tryz.prog W=.ok (.value (.bool false)) W:=fun la ca lb cb o=>
  ZAN W g N 3 (cap*3) hne la ca lb cb o (by simp[World.shape?,hv,Zfz]) (by simp[World.shape?,hg0,hs]) (by omega) (fun k=>frozen_of_row W N k _ _ hv)
 have hdl:(Zag (l.drop i)).length=(l.length-i)*3:=by rw[Zaw,List.length_drop]
 have hsome:∀ j,j<(l.length+1)*3->(W.cell? ⟨g,j,none⟩).isSome=true:=fun j hj=>by
  rw[cell_of_row W g j _ _ _ hg0,Array.getElem?_eq_getElem (by omega)]
  rfl
 have hcp1:∀ W',(∀ x,W'.cell? x=W.cell? x)->(∀ x,W'.frozen? x=W.frozen? x)->∀ ty dc sc,(Builtin.copy_ #[39,39] ty #[.slice (some ⟨g,(i+1)*3,none⟩) (l.length-i) dc,.slice (some ⟨g,i*3,none⟩) (l.length+1-i) sc]).run Tryz.prog W'=.ok (goInt (Nat.min (l.length+1-i) (l.length-i))) (W'.setCells g ((i+1)*3) (Zag (l.drop i))):=fun W' hWc hWf ty dc sc=>
  ZdJ W' _ _ ty 86 3 g ((i+1)*3) (l.length-i) dc ⟨g,i*3,none⟩ (l.length+1-i) sc (Zag (l.drop i)) Tryz.underlying39 Zjt (by rw[hdl];simp only [Nat.min_def];split <;> omega)
   (fun j v hj=>by
    have hj':j<(l.length-i)*3:=by rw[<-hdl];exact(List.getElem?_eq_some_iff.1 hj).1
    rw[Addr.add_lit,hWc,cell_of_row W g _ _ _ _ hg0,hc _ (by omega)]
    rw[Zfi,List.getElem?_drop] at hj
    exact hj)
   (fun j hj=>by rw[hWc];exact hsome _ (by omega)) (fun j hj=>by rw[hWf];exact hfz _) (ZcB _)
 obtain⟨W1,hW1⟩:∃ W1,W1=W.drew.setCells g ((i+1)*3) (Zag (l.drop i)):=⟨_,rfl⟩
 have hg1:W1.heap[g]?=some (.cells (ZhV cur ((i+1)*3) (Zag (l.drop i))) 86 (0,0)):=by rw[hW1];exact ZaG g _ _ _ W.drew cur hg0
 have hv1:W1.heap[N]?=some (.cells (Zfz e) 86 (0,0)):=by rw[hW1,Zdg g _ _ _ N hne];exact hv
 have hl3:(Zag [e]).length=3:=Zaw [e]
 have hcp2:∀ W',(∀ x,W'.cell? x=W1.cell? x)->(∀ x,W'.frozen? x=W1.frozen? x)->∀ ty dc,(Builtin.copy_ #[39,39] ty #[.slice (some ⟨g,i*3,none⟩) (l.length+1-i) dc,.slice (some ⟨N,0,none⟩) 1 1]).run Tryz.prog W'=.ok (goInt (Nat.min 1 (l.length+1-i))) (W'.setCells g (i*3) (Zag [e])):=fun W' hWc hWf ty dc=>
  ZdJ W' _ _ ty 86 3 g (i*3) (l.length+1-i) dc ⟨N,0,none⟩ 1 1 (Zag [e]) Tryz.underlying39 Zjt (by rw[hl3];simp only [Nat.min_def];split <;> omega)
   (fun j v hj=>by
    rw[Addr.add_lit,hWc,Nat.zero_add,cell_of_row W1 N _ _ _ _ hv1]
    have:(Zag [e])[j]?=(Zfz e)[j]?:=by
     have hj':j<3:=by rw[<-hl3];exact(List.getElem?_eq_some_iff.1 hj).1
     have:=Zbv [e] 0 j (by simp) hj'
     rwa [Nat.zero_mul,Nat.zero_add] at this
    rw[<-this]
    exact hj)
   (fun j hj=>by
    rw[hWc,cell_of_row W1 g _ _ _ _ hg1,Array.getElem?_eq_getElem (by rw[ZaF];omega)]
    rfl) (fun j hj=>by rw[hWf];exact frozen_of_row W1 g _ _ _ hg1) (ZcB _)
 have HFIN:Hid (ZAA w B (l.take i++(e::l.drop i)) (.returned (.slice (some ⟨g,0,none⟩) (l.length+1) cap)) (W1.setCells g (i*3) (Zag [e]))):=ZZ (by
  refine⟨_,rfl,Zbs.ofRow (ZdT l i (by omega) e).symm hBg (ZaG g _ _ _ W1 _ hg1) (by rw[ZdT l i (by omega) e];exact hroom) hm (by rw[ZaF,ZaF];exact hs) (fun j hj=>?_),?_⟩
  ·rw[ZdT l i (by omega) e] at hj
   refine Zmz l i (by omega) e (fun j=>(ZhV (ZhV cur ((i+1)*3) (Zag (l.drop i))) (i*3) (Zag [e]))[j]?) (fun k hk=>?_) (fun k hk=>?_) (fun k hk=>?_) j hj
   ·show(ZhV (ZhV cur ((i+1)*3) (Zag (l.drop i))) (i*3) (Zag [e]))[k]?=_
    rw[Zbe _ _ _ _ (by rw[ZaF];omega),if_neg (by omega),Zbe _ _ _ _ (by omega),if_neg (by omega)]
    exact hc k (by omega)
   ·show(ZhV (ZhV cur ((i+1)*3) (Zag (l.drop i))) (i*3) (Zag [e]))[i*3+k]?=_
    rw[Zbe _ _ _ _ (by rw[ZaF];omega),if_pos (by omega),Nat.add_sub_cancel_left]
   ·show(ZhV (ZhV cur ((i+1)*3) (Zag (l.drop i))) (i*3) (Zag [e]))[(i+1)*3+k]?=_
    rw[Zbe _ _ _ _ (by rw[ZaF];omega),if_neg (by omega),Zbe _ _ _ _ (by omega),if_pos (by omega),Nat.add_sub_cancel_left]
  ·rw[hW1]
   exact ZcC hBg _ _ _ (ZcC hBg _ _ _ (Zks HB0.out)))
 have hcq1:=fun ty dc sc=>hcp1 W.drew (fun _=>rfl) (fun _=>rfl) ty dc sc
 have hcq2:=fun ty dc=>hcp2 W1 (fun _=>rfl) (fun _=>rfl) ty dc
 clear hcp1 hcp2
 rw[hW1] at HFIN hcq2
 clear hW1 hg1 hv1 hc hs hg hg0 hv hsome hfz hm HB0 hdl hl3 hN
 have mixed:Tryz.prog.follows .mixedOrders=true:=by kernel_rfl
 have hz2:¬ ((i:Int)=(l.length:Int)):=by omega
 have hz3:((i:Int) == (l.length:Int))=false:=beq_eq_false_iff_ne.2 hz2
 have hw1:IntKind.i64.wrap ((i:Int)+1)=(i:Int)+1:=by rw[IntKind.wrap_i64];omega
 have hw2:IntKind.i64.wrap ((l.length:Int)+1)=(l.length:Int)+1:=by rw[IntKind.wrap_i64];omega
 have hb1:(0:Int)<=(i:Int)+1:=by omega
 have hin:i<=l.length:=by omega
 have hini:(i:Int)<=(l.length:Int):=by omega
 have htn:((i:Int)+1).toNat=i+1:=by omega
 have htl:((l.length:Int)+1).toNat=l.length+1:=by omega
 have hb2:¬ (cap=i+1):=by omega
 have hb3:(i:Int)<=(l.length:Int)+1:=by omega
 have hb4:¬ (cap=i):=by omega
 have hb5:¬ ((cap:Int)<(l.length:Int)+1):=by omega
 have hb6:(l.length:Int)+1<=(cap:Int):=by omega
 have hb7:(i:Int)+1<=(l.length:Int)+1:=by omega
 generalize Zag (l.drop i)=dcs at *
 generalize Zag [e]=ecs at *
 generalize l.take i++(e::l.drop i)=LL at *
 go_enter Tryz.func89,Tryz.ntmps89
 go_wp2_with(simp only [hov])
 go_region_law_o (refine step_copy_runI rfl _ _ 39 39 rfl _ _ (by simp[Act.eval,Act.put]) (by simp[Act.eval,Act.put]) (hcq1 _ _ _) ?_)
 go_wp2_with(at_builtin;refine wpList_copy_runI _ rfl _ _ 39 39 rfl _ _ rfl rfl (hcq2 _ _) ?_)
 go_wp2
 go_ret
 exact HFIN.out
theorem Zpe (g cap:Nat) (l:List Ent) (B:Nat) (w:World) (ho:Zbs w B (.slice (some ⟨g,0,none⟩) l.length cap) l) (hB:B<=w.heap.size) (i:Nat) (hi:i<l.length) (hroom:cap<l.length+1) (hlim:l.length<=100000) (e:Ent) (I:Int) (hI:I=(i:Nat)) (N:Nat) (hN:N=w.heap.size):
 Calls Tryz.prog 89 #[.slice (some ⟨g,0,none⟩) l.length cap,.int .i64 I,.slice (some ⟨N,0,none⟩) 1 1] (w.alloc (.cells (Zfz e) 86)) fun x w'=>ZAA w B (l.take i++(e::l.drop i)) x w':=by
 subst hI
 rcases ho.row with ⟨h1,-⟩ | ⟨g',cap',cur,h1,hBg,hlt,hg,hn,hm,hs,hc⟩
 ·cases h1
 injection h1 with h1 _ h3
 injection h1 with h1
 injection h1 with h1
 subst h1 h3
 clear ho
 obtain⟨i0,hi0,hz0,hz1,hz2⟩:=info_parts Zjs
 have hv:(w.alloc (.cells (Zfz e) 86)).heap[N]?=some (.cells (Zfz e) 86 (0,0)):=by rw[hN];exact heap_alloc_new w _
 have hg0:(w.alloc (.cells (Zfz e) 86)).heap[g]?=some (.cells cur 86 (0,0)):=(Below.heap_alloc _ _ _ hlt).trans hg
 have HB0:Hid (Below B w (w.alloc (.cells (Zfz e) 86))):=(Below.refl _ _).alloc hB _
 have hszW:(w.alloc (.cells (Zfz e) 86)).heap.size=w.heap.size+1:=by simp
 generalize w.alloc (.cells (Zfz e) 86)=W at *
 have hl3:(Zag [e]).length=3:=Zaw [e]
 have hdl:(Zag (l.drop i)).length=(l.length-i)*3:=by rw[Zaw,List.length_drop]
 have htl:((Zag l).take (i*3)).length=i*3:=by rw[List.length_take,Zaw];omega
 have hold:(Builtin.firstCells i0.size i (.slice (some ⟨g,0,none⟩) i cap)).run Tryz.prog W.drew=.ok ((Zag l).take (i*3)).toArray W.drew:=by
  rw[hz1]
  exact run_firstCells_some W.drew 3 i ⟨g,0,none⟩ i cap ((Zag l).take (i*3)) htl (fun j v hj=>by
   have hj':j<i*3:=by rw[<-htl];exact(List.getElem?_eq_some_iff.1 hj).1
   rw[List.getElem?_take_of_lt hj'] at hj
   rw[Addr.add_lit,Nat.zero_add,cell_of_row W.drew g j _ _ _ hg0,hc j (by omega)]
   exact hj)
 have hik:i+(l.length+1-i)=l.length+1:=by omega
 have hkk:(l.length:Int)+1-(i:Int)=((l.length+1-i:Nat):Int):=by omega
 obtain⟨G,hG⟩:∃ G,G=grownCap W (l.length+1) cap 86:=⟨_,rfl⟩
 obtain⟨ROW,hROW⟩:∃ ROW,ROW=((Zag l).take (i*3)).toArray++Builtin.zeroCells (Value.agg #[.int .i64 0,.int .i64 0,.int .i64 0]).cells (l.length+1-i)++Builtin.zeroCells (Value.agg #[.int .i64 0,.int .i64 0,.int .i64 0]).cells (G-(l.length+1)):=⟨_,rfl⟩
 have hrz:∀ ty,(Builtin.append_ #[39,3] ty #[.slice (some ⟨g,0,none⟩) i cap,.int .i64 ((l.length:Int)+1-(i:Int))]).run Tryz.prog W=.ok (.slice (some ⟨W.heap.size,0,none⟩) (l.length+1) G) ((W.alloc (.cells ROW 86)).drew):=fun ty=>by
  have h:=Lib.run_append_grow_zeros W 39 3 ty 86 i0 _ .i64 .i64 Tryz.underlying39 Tryz.underlying3 hi0 hz0 (some ⟨g,0,none⟩) i cap _ hold (l.length+1-i) (by omega) (by omega) (by omega) (by omega) (by rw[hz2];omega) (by rw[hz2,hik];exact growslice_fits_wide hroom (by omega))
  rw[hik,<-hG,<-hROW,<-hkk] at h
  exact h
 have hGn:l.length+1<=G:=by rw[hG];exact grownCap_ge W _ _ _
 have hGm:G<=maxLen:=by rw[hG];exact grownCap_le_maxLen W (l.length+1) cap 86 (by unfold maxLen;omega)
 have hz3s:∀ n,(Builtin.zeroCells (Value.agg #[.int .i64 0,.int .i64 0,.int .i64 0]).cells n).size=n*3:=fun n=>by
  rw[<-Array.length_toList,Zmu,Zcj]
 have hRs:ROW.size=G*3:=by
  rw[hROW,Array.size_append,Array.size_append,hz3s,hz3s,List.size_toArray,htl]
  omega
 have hRc:∀ j,j<i*3->ROW[j]?=(Zag l)[j]?:=fun j hj=>by
  rw[hROW,Array.append_assoc,Array.getElem?_append_left (by rw[List.size_toArray,htl];exact hj),List.getElem?_toArray,List.getElem?_take_of_lt hj]
 have hrow:(W.alloc (.cells ROW 86)).drew.heap[W.heap.size]?=some (.cells ROW 86 (0,0)):=heap_alloc_new W _
 have hvW:(W.alloc (.cells ROW 86)).drew.heap[N]?=some (.cells (Zfz e) 86 (0,0)):=(Below.heap_alloc W _ N (by omega)).trans hv
 have hgW:(W.alloc (.cells ROW 86)).drew.heap[g]?=some (.cells cur 86 (0,0)):=(Below.heap_alloc W _ g (by omega)).trans hg0
 have HB1:Hid (Below B w (W.alloc (.cells ROW 86)).drew):=ZZ (Zks (HB0.out.alloc (by omega) _))
 have hBM:B<=W.heap.size:=by omega
 have hNM:N≠W.heap.size:=by omega
 have hgM:g≠W.heap.size:=by omega
 obtain⟨W2,hW2⟩:∃ W2,W2=(W.alloc (.cells ROW 86)).drew:=⟨_,rfl⟩
 rw[<-hW2] at hrow hvW hgW HB1
 have hcq1:∀ ty dc,(Builtin.copy_ #[39,39] ty #[.slice (some ⟨W.heap.size,i*3,none⟩) (l.length+1-i) dc,.slice (some ⟨N,0,none⟩) 1 1]).run Tryz.prog W2=.ok (goInt (Nat.min 1 (l.length+1-i))) (W2.setCells W.heap.size (i*3) (Zag [e])):=fun ty dc=>
  ZdJ W2 _ _ ty 86 3 W.heap.size (i*3) (l.length+1-i) dc ⟨N,0,none⟩ 1 1 (Zag [e]) Tryz.underlying39 Zjt (by rw[hl3];simp only [Nat.min_def];split <;> omega)
   (fun j v hj=>by
    rw[Addr.add_lit,Nat.zero_add,cell_of_row W2 N _ _ _ _ hvW]
    have:(Zag [e])[j]?=(Zfz e)[j]?:=by
     have hj':j<3:=by rw[<-hl3];exact(List.getElem?_eq_some_iff.1 hj).1
     have:=Zbv [e] 0 j (by simp) hj'
     rwa [Nat.zero_mul,Nat.zero_add] at this
    rw[<-this]
    exact hj)
   (fun j hj=>by
    rw[cell_of_row W2 _ _ _ _ _ hrow,Array.getElem?_eq_getElem (by omega)]
    rfl) (fun j hj=>frozen_of_row W2 _ _ _ _ hrow) (ZcB _)
 obtain⟨W3,hW3⟩:∃ W3,W3=(W2.setCells W.heap.size (i*3) (Zag [e])).drew:=⟨_,rfl⟩
 have hrow3:W3.heap[W.heap.size]?=some (.cells (ZhV ROW (i*3) (Zag [e])) 86 (0,0)):=by rw[hW3];exact ZaG _ _ _ _ W2 ROW hrow
 have hg3:W3.heap[g]?=some (.cells cur 86 (0,0)):=by
  rw[hW3]
  exact(Zdg W.heap.size _ _ W2 g hgM).trans hgW
 have HB3:Hid (Below B w W3):=ZZ (by rw[hW3];exact Zks (ZcC hBM _ _ _ HB1.out))
 have hcq2:∀ ty dc sc,(Builtin.copy_ #[39,39] ty #[.slice (some ⟨W.heap.size,(i+1)*3,none⟩) (l.length-i) dc,.slice (some ⟨g,i*3,none⟩) (l.length-i) sc]).run Tryz.prog W3=.ok (goInt (Nat.min (l.length-i) (l.length-i))) (W3.setCells W.heap.size ((i+1)*3) (Zag (l.drop i))):=fun ty dc sc=>
  ZdJ W3 _ _ ty 86 3 W.heap.size ((i+1)*3) (l.length-i) dc ⟨g,i*3,none⟩ (l.length-i) sc (Zag (l.drop i)) Tryz.underlying39 Zjt (by rw[hdl];simp only [Nat.min_def];split <;> omega)
   (fun j v hj=>by
    have hj':j<(l.length-i)*3:=by rw[<-hdl];exact(List.getElem?_eq_some_iff.1 hj).1
    rw[Addr.add_lit,cell_of_row W3 g _ _ _ _ hg3,hc _ (by omega)]
    rw[Zfi,List.getElem?_drop] at hj
    exact hj)
   (fun j hj=>by
    rw[cell_of_row W3 _ _ _ _ _ hrow3,Array.getElem?_eq_getElem (by rw[ZaF];omega)]
    rfl) (fun j hj=>frozen_of_row W3 _ _ _ _ hrow3) (ZcB _)
 have HFIN:Hid (ZAA w B (l.take i++(e::l.drop i)) (.returned (.slice (some ⟨W.heap.size,0,none⟩) (l.length+1) G)) (W3.setCells W.heap.size ((i+1)*3) (Zag (l.drop i)))):=ZZ (by
  refine⟨_,rfl,Zbs.ofRow (ZdT l i (by omega) e).symm hBM (ZaG _ _ _ _ W3 _ hrow3) (by rw[ZdT l i (by omega) e];exact hGn) hGm (by rw[ZaF,ZaF];exact hRs) (fun j hj=>?_),?_⟩
  ·rw[ZdT l i (by omega) e] at hj
   refine Zmz l i (by omega) e (fun j=>(ZhV (ZhV ROW (i*3) (Zag [e])) ((i+1)*3) (Zag (l.drop i)))[j]?) (fun k hk=>?_) (fun k hk=>?_) (fun k hk=>?_) j hj
   ·show(ZhV (ZhV ROW (i*3) (Zag [e])) ((i+1)*3) (Zag (l.drop i)))[k]?=_
    rw[Zbe _ _ _ _ (by rw[ZaF];omega),if_neg (by omega),Zbe _ _ _ _ (by omega),if_neg (by omega)]
    exact hRc k hk
   ·show(ZhV (ZhV ROW (i*3) (Zag [e])) ((i+1)*3) (Zag (l.drop i)))[i*3+k]?=_
    rw[Zbe _ _ _ _ (by rw[ZaF];omega),if_neg (by omega),Zbe _ _ _ _ (by omega),if_pos (by omega),Nat.add_sub_cancel_left]
   ·show(ZhV (ZhV ROW (i*3) (Zag [e])) ((i+1)*3) (Zag (l.drop i)))[(i+1)*3+k]?=_
    rw[Zbe _ _ _ _ (by rw[ZaF];omega),if_pos (by omega),Nat.add_sub_cancel_left]
  ·exact ZcC hBM _ _ _ HB3.out)
 rw[hW3] at HFIN hcq2
 rw[hW2] at HFIN hcq2 hcq1
 clear hW3 hW2 hg3 hrow3 hrow hvW hgW hRs hRc hz3s HB3 HB1 hold hROW hc hs hg hg0 hv hm HB0 hdl hl3 htl hz2 hz1 hz0 hi0 hG hNM hgM hGm hkk hik hszW hN hBM
 have mixed:Tryz.prog.follows .mixedOrders=true:=by kernel_rfl
 have hz2:¬ ((i:Int)=(l.length:Int)):=by omega
 have hz3:((i:Int) == (l.length:Int))=false:=beq_eq_false_iff_ne.2 hz2
 have hw1:IntKind.i64.wrap ((i:Int)+1)=(i:Int)+1:=by rw[IntKind.wrap_i64];omega
 have hw2:IntKind.i64.wrap ((l.length:Int)+1)=(l.length:Int)+1:=by rw[IntKind.wrap_i64];omega
 have hb1:(0:Int)<=(i:Int)+1:=by omega
 have hin:i<=l.length:=by omega
 have hini:(i:Int)<=(l.length:Int):=by omega
 have hinc:(i:Int)<=(cap:Int):=by omega
 have hicc:i<=cap:=by omega
 have htn:((i:Int)+1).toNat=i+1:=by omega
 have htl:((l.length:Int)+1).toNat=l.length+1:=by omega
 have hb2:¬ (G=i+1):=by omega
 have hb3:(i:Int)<=(l.length:Int)+1:=by omega
 have hb4:¬ (cap=i):=by omega
 have hb4':¬ (G=i):=by omega
 have hb5:(cap:Int)<(l.length:Int)+1:=by omega
 have hb7:(i:Int)+1<=(l.length:Int)+1:=by omega
 have hlb:(l.length:Int)<=100000:=by omega
 have hw3:IntKind.i64.wrap ((l.length:Int)+1-(i:Int))=(l.length:Int)+1-(i:Int):=by rw[IntKind.wrap_i64];omega
 clear hB hBg hlt hlim
 generalize Zag (l.drop i)=dcs at *
 generalize Zag [e]=ecs at *
 generalize l.take i++(e::l.drop i)=LL at *
 go_enter Tryz.func89,Tryz.ntmps89
 go_wp2_with(first
  | (at_builtin;refine Lib.wpList_append_run _ rfl _ _ _ _ rfl _ _ rfl rfl _ _ (hrz _) ?_)
  | (at_builtin;refine wpList_copy_runI _ rfl _ _ 39 39 rfl _ _ rfl rfl (hcq1 _ _) ?_))
 go_region_law_o (refine step_copy_runI rfl _ _ 39 39 rfl _ _ (by simp[Act.eval,Act.put]) (by simp[Act.eval,Act.put]) (hcq2 _ _ _) ?_)
 go_wp2
 go_ret
 exact HFIN.out
theorem ZqV (v:Value) (l:List Ent) (B:Nat) (w:World) (ho:Zbs w B v l) (hB:B<=w.heap.size) (hlim:l.length<=100000) (i:Nat) (hi:i<=l.length) (e:Ent) (he:Zor e) (I:Int) (hI:I=(i:Nat)) (N:Nat) (hN:N=w.heap.size):
 Calls Tryz.prog 89 #[v,.int .i64 I,.slice (some ⟨N,0,none⟩) 1 1] (w.alloc (.cells (Zfz e) 86)) fun x w'=>ZAA w B (l.take i++(e::l.drop i)) x w':=by
 by_cases h:i=l.length
 ·subst h
  exact ZqU v l B w ho hB hlim e he I hI N hN
 ·rcases ho.row with ⟨-,rfl⟩ | ⟨g,cap,cur,rfl,-⟩
  ·exact absurd (by simpa using hi) (by simpa using h)
  ·by_cases hr:l.length+1<=cap
   ·exact Zpd g cap l B w ho hB i (by omega) hr e I hI N hN
   ·exact Zpe g cap l B w ho hB i (by omega) (by omega) hlim e I hI N hN
theorem Zcf {l:List UInt8} {n:Int} (h0:0<=n) (h1:n<4611686018427387904):ZtI l n=l++Lib.uvarint n.toNat:=if_pos ⟨h0,h1⟩
theorem ZxL {n:Int} (h:I64 n):(Lib.uvarint (Lib.zigzag n)).length<=10:=Lib.uvarint_length64 (ZeJ h)
theorem Zdx {n:Nat} (h:n<4611686018427387904):(Lib.uvarint n).length<=10:=Lib.uvarint_length64 (by omega)
theorem ZqW (w:World) (X Y:Obj):((w.alloc X).alloc Y).heap[w.heap.size+1]?=some Y:=by
 have h:=heap_alloc_new (w.alloc X) Y
 have e:(w.alloc X).heap.size=w.heap.size+1:=by simp
 rwa [e] at h
def Zwb (w:World) (l:List UInt8) (e:Ending) (w':World):Prop:=
 e=.returned (.tuple #[opV (ZaB l).1,.int .i64 ((ZaB l).2:Nat)])∧Below w.heap.size w w'
def ZtR (r:Rec):Value:=.agg #[.int .i64 r.idx,.int .i64 r.proc,.int .i64 r.seq,.int .i64 r.op.code,.int .i64 r.op.a,.int .i64 r.op.b,.int .i64 r.resp]
def Zei (r:Rec):Array Value:=#[.int .i64 r.idx,.int .i64 r.proc,.int .i64 r.seq,.int .i64 r.op.code,.int .i64 r.op.a,.int .i64 r.op.b,.int .i64 r.resp]
def ZfA (r:Rec):Prop:=I64 r.idx∧I64 r.proc∧I64 r.seq∧ZzD r.op∧I64 r.resp
def Br (w:World) (b:Nat) (cs:Array Value):Prop:=w.heap[b]?=some (.cells cs 63 (0,0))
theorem Br.lt {w:World} {b:Nat} {cs:Array Value} (h:Br w b cs):b<w.heap.size:=(Array.getElem?_eq_some_iff.1 h).1
theorem Br.below {w w':World} {b B:Nat} {cs:Array Value} (h:Br w b cs) (hb:Below B w w') (hB:w.heap.size<=B):Br w' b cs:=(hb.block b (by have:=h.lt;omega)).trans h
theorem Br.cell {w:World} {b:Nat} {cs:Array Value} (h:Br w b cs) (j:Nat):w.cell? ⟨b,j,none⟩=cs[j]?∧w.frozen? ⟨b,j,none⟩=false:=⟨cell_of_row w b j _ _ _ h,frozen_of_row w b j _ _ h⟩
theorem Zwc (r:Rec) (R:Nat) (e:Ent) (W:World) (hb:Br W R (Zei r)):
 Calls Tryz.prog 85 #[ZtO e,.pointer (some ⟨R,0,none⟩)] W fun x w'=>x=.returned (.bool (decide (e.proc=r.proc)))∧Below W.heap.size W w':=by
 have HB0:Hid (∀ X,Below W.heap.size W (W.alloc X)):=fun X=>(Below.refl _ _).alloc zL X
 have hlt:R<W.heap.size:=(Array.getElem?_eq_some_iff.1 hb).1
 have HC:Hid (∀ X,(W.alloc X).cell? ⟨R,1,none⟩=some (.int .i64 r.proc)):=ZZ (fun X=>by
  rw[(HB0.out X).cell (p:=⟨R,1,none⟩) hlt]
  exact cell_of_row W R 1 _ _ _ hb)
 obtain⟨ep,es,er⟩:=e
 unfold ZtO
 simp only
 have hc:=HC.out
 generalize r.proc=rp at *
 clear hb HC
 by_cases h:ep=rp
 ·have HE:Hid (decide (ep=rp)=true):=decide_eq_true h
  have h':(ep == rp)=true:=beq_iff_eq.2 h
  rw[HE.out]
  clear HE h
  go_enter Tryz.func85,Tryz.ntmps85
  go_wp2
  go_ret
  exact⟨rfl,HB0.out _⟩
 ·have HE:Hid (decide (ep=rp)=false):=decide_eq_false h
  have h':(ep == rp)=false:=beq_eq_false_iff_ne.2 h
  rw[HE.out]
  clear HE h
  go_enter Tryz.func85,Tryz.ntmps85
  go_wp2
  go_ret
  exact⟨rfl,HB0.out _⟩
theorem Zwd (r:Rec) (R:Nat) (e:Ent) (W:World) (hb:Br W R (Zei r)):
 Calls Tryz.prog 86 #[ZtO e,.pointer (some ⟨R,0,none⟩)] W fun x w'=>x=.returned (.bool (decide (r.proc<e.proc)))∧Below W.heap.size W w':=by
 have HB0:Hid (∀ X,Below W.heap.size W (W.alloc X)):=fun X=>(Below.refl _ _).alloc zL X
 have hlt:R<W.heap.size:=(Array.getElem?_eq_some_iff.1 hb).1
 have HC:Hid (∀ X,(W.alloc X).cell? ⟨R,1,none⟩=some (.int .i64 r.proc)):=ZZ (fun X=>by
  rw[(HB0.out X).cell (p:=⟨R,1,none⟩) hlt]
  exact cell_of_row W R 1 _ _ _ hb)
 obtain⟨ep,es,er⟩:=e
 unfold ZtO
 simp only
 have hc:=HC.out
 generalize r.proc=rp at *
 clear hb HC
 by_cases h:rp<ep
 ·have HE:Hid (decide (rp<ep)=true):=decide_eq_true h
  rw[HE.out]
  clear HE
  go_enter Tryz.func86,Tryz.ntmps86
  go_wp2
  go_ret
  exact⟨rfl,HB0.out _⟩
 ·have HE:Hid (decide (rp<ep)=false):=decide_eq_false h
  rw[HE.out]
  clear HE
  go_enter Tryz.func86,Tryz.ntmps86
  go_wp2
  go_ret
  exact⟨rfl,HB0.out _⟩
theorem ZtS {p:Int} {t:List Ent} {k:Int} (h:Zzq (fun e=>decide (p<e.proc)) t k):(k<0∧Zdp p t=t.length)∨(0<=k∧k=(Zdp p t:Nat)):=by
 rcases h with ⟨rfl,h⟩ | ⟨i,rfl,hi,h1,h2⟩
 ·exact .inl ⟨by omega,Zmt (fun j hj=>of_decide_eq_false (h j hj))⟩
 ·refine .inr ⟨by omega,?_⟩
  rw[ZoZ hi (fun j hj=>of_decide_eq_false (h1 j hj)) (of_decide_eq_true h2)]
theorem Zyo {p:Int} {t:List Ent} {P:Ent->Prop} (h:∀ e ∈ t,P e):∀ e ∈ ZqP p t,P e:=fun e he=>h e (List.mem_filter.1 he).1
theorem Zwe (v:Value) (t:List Ent) (r:Rec) (w:World) (hr:RdE w v t) (hok:ZfA r) (hlim:t.length<=2000):
 Calls Tryz.prog 44 #[v,ZtR r] w fun e w'=>∃ v',e=.returned v'∧Zbs w' w.heap.size v' (ZfJ t ⟨r.proc,r.seq,r.resp⟩)∧Below w.heap.size w w':=by
 have hTI:∀ e ∈ t,Zor e:=hr.choose_spec.choose_spec.2.2.2.2.1
 have HTI:=ZZ hTI
 have HX:Hid (Br (w.alloc (.cells (Zei r) 63)) w.heap.size (Zei r)):=ZZ (heap_alloc_new w _)
 have HB0:Hid (Below w.heap.size w (w.alloc (.cells (Zei r) 63))):=ZZ ((Below.refl _ _).alloc zL _)
 have hsz:(w.alloc (.cells (Zei r) 63)).heap.size=w.heap.size+1:=by simp
 have HR:=ZZ (hr.below HB0.out zL)
 have HEI:Hid (Zor ⟨r.proc,r.seq,r.resp⟩):=ZZ ⟨hok.2.1,hok.2.2.1,hok.2.2.2.2⟩
 have eg1:∀ args W,(callFunc 85 args).run Tryz.prog W=.ok (.enter 85 args) W:=enters_of Tryz.func85 (by kernel_rfl) rfl
 have eg2:∀ args W,(callFunc 86 args).run Tryz.prog W=.ok (.enter 86 args) W:=enters_of Tryz.func86 (by kernel_rfl) rfl
 have HEG1:=ZZ eg1
 have HEG2:=ZZ eg2
 have HNI:Hid (ZfJ t ⟨r.proc,r.seq,r.resp⟩=(ZqP r.proc t).take (Zdp r.proc (ZqP r.proc t))++(⟨r.proc,r.seq,r.resp⟩::(ZqP r.proc t).drop (Zdp r.proc (ZqP r.proc t)))):=ZZ (ZoY ⟨r.proc,r.seq,r.resp⟩ t)
 have HBT:Hid (t.filter (fun e=>!decide (e.proc=r.proc))=ZqP r.proc t):=ZZ (by unfold ZqP;simp)
 have HN1:=ZZ (fun W e h=>Zwc r w.heap.size e W h)
 have HN2:=ZZ (fun W e h=>Zwd r w.heap.size e W h)
 have HXB:Hid (∀ W,Below (w.heap.size+1) (w.alloc (.cells (Zei r) 63)) W->Br W w.heap.size (Zei r)):=ZZ (fun W h=>(h.block w.heap.size (by omega)).trans HX.out)
 have hmf:∀ (fn:Fn) (first cap:Array Value) (w:World),(Instr.makeFunc fn first cap).run Tryz.prog w=.ok (.func fn first cap) w:=fun _ _ _ _=>rfl
 have HCL:=ZZ (fun W v l h h2=>Zmy v l W h h2)
 clear eg1 eg2 hTI hok hr
 unfold ZtR Zei at *
 go_enter Tryz.func44,Tryz.ntmps44
 go_wp2_with fail
 refine(HCL.out _ _ t HR.out (by omega)).mono ?_
 rintro x W1 ⟨v1,rfl,ho1,hb1⟩
 rw[hsz] at ho1 hb1
 have HO1:=ZZ ho1
 have HB1:=ZZ hb1
 clear ho1 hb1
 have HDE:=ZZ (Zkw 85 w.heap.size (fun e=>decide (e.proc=r.proc)) v1 t (w.heap.size+1) W1 HO1.out HTI.out (by have:=HB1.out.size;omega) (by omega) HEG1.out (fun W e h=>HN1.out W e (HXB.out W (HB1.out.trans h))))
 go_wp2_with fail
 refine HDE.out.mono ?_
 rintro x W2 ⟨v2,rfl,ho2,hb2⟩
 rw[HBT.out] at ho2
 have HO2:=ZZ ho2
 have HB2:=ZZ (HB1.out.trans hb2)
 have HT2:=ZZ (Zyo (p:=r.proc) HTI.out)
 have hl2:(ZqP r.proc t).length<=2000:=Nat.le_trans (Zyn _ _) hlim
 clear ho2 hb2 HDE HO1 HB1 HR HTI HBT
 obtain⟨bt,hbt⟩:∃ bt,bt=ZqP r.proc t:=⟨_,rfl⟩
 rw[<-hbt] at HO2 HT2 HNI hl2
 clear hbt
 have HIX:=ZZ (Zgs 86 w.heap.size (fun e=>decide (r.proc<e.proc)) v2 bt W2 (HO2.out.rd HT2.out) HEG2.out (fun W e h=>HN2.out W e (HXB.out W (HB2.out.trans (h.mono (by have:=HB2.out.size;omega))))))
 obtain⟨va,vc,hv2⟩:=HO2.out.shape
 subst hv2
 go_wp2_with fail
 refine HIX.out.mono ?_
 rintro x W3 ⟨k,rfl,hf,hb3⟩
 have HO3:=ZZ (HO2.out.below hb3 zL)
 have HB3:=ZZ (HB2.out.trans (hb3.mono (by have:=HB2.out.size;omega)))
 have HX3:=ZZ (HXB.out W3 HB3.out)
 have HBW:=ZZ (HB0.out.trans (HB3.out.mono (by omega)))
 have hs3:w.heap.size+1<=W3.heap.size:=by have:=HB3.out.size;omega
 clear hb3 HIX HO2 HB2
 obtain⟨q1,f1⟩:=HX3.out.cell 1
 obtain⟨q2,f2⟩:=HX3.out.cell 2
 obtain⟨q4,f4⟩:=HX3.out.cell 6
 have hfl:=ZoX r.proc bt
 have HIN:=ZZ (fun I hI N hN=>ZqV (.slice va bt.length vc) bt (w.heap.size+1) W3 HO3.out hs3 (by omega) (Zdp r.proc bt) hfl ⟨r.proc,r.seq,r.resp⟩ HEI.out I hI N hN)
 rw[<-HNI.out] at HIN
 unfold Zfz at HIN
 have hbl:(bt.length:Int)<=2000:=by omega
 rcases ZtS hf with ⟨hk,hE⟩ | ⟨hk,hE⟩
 ·clear hf
  have HE2:=ZZ hE
  clear hE hfl hl2 hlim
  go_wp2_with fail
  refine(HIN.out _ (by rw[HE2.out]) _ rfl).mono ?_
  rintro x W4 ⟨v4,rfl,ho4,hb4⟩
  have HO4:=ZZ (ho4.mono (B':=w.heap.size) (by omega))
  have HB4:=ZZ (HBW.out.trans (hb4.mono (by omega)))
  clear ho4 hb4
  go_wp2
  go_ret
  exact⟨_,rfl,HO4.out,HB4.out⟩
 ·clear hf
  have hkn:¬ k<0:=by omega
  have HE2:=ZZ hE
  clear hE hfl hl2 hlim
  go_wp2_with fail
  refine(HIN.out _ HE2.out _ rfl).mono ?_
  rintro x W4 ⟨v4,rfl,ho4,hb4⟩
  have HO4:=ZZ (ho4.mono (B':=w.heap.size) (by omega))
  have HB4:=ZZ (HBW.out.trans (hb4.mono (by omega)))
  clear ho4 hb4
  go_wp2
  go_ret
  exact⟨_,rfl,HO4.out,HB4.out⟩
def Bn (w:World) (b:Nat) (cs:Array Value):Prop:=w.heap[b]?=some (.cells cs 41 (0,0))
theorem Bn.lt {w:World} {b:Nat} {cs:Array Value} (h:Bn w b cs):b<w.heap.size:=(Array.getElem?_eq_some_iff.1 h).1
theorem Bn.below {w w':World} {b B:Nat} {cs:Array Value} (h:Bn w b cs) (hb:Below B w w') (hB:w.heap.size<=B):Bn w' b cs:=(hb.block b (by have:=h.lt;omega)).trans h
theorem Bn.cell {w:World} {b:Nat} {cs:Array Value} (h:Bn w b cs) (j:Nat):w.cell? ⟨b,j,none⟩=cs[j]?∧w.frozen? ⟨b,j,none⟩=false:=⟨cell_of_row w b j _ _ _ h,frozen_of_row w b j _ _ h⟩
theorem Zkx (w:World) (X Y:Obj):((w.alloc X).alloc Y).heap[w.heap.size+1]?=some Y:=by
 have h:=heap_alloc_new (w.alloc X) Y
 have e:(w.alloc X).heap.size=w.heap.size+1:=by simp
 rw[e] at h
 exact h
def ZAO (a b:ZaU):Prop:=ZzE a.st b.st∧a.idx=b.idx∧a.tab=b.tab
instance (a b:ZaU):Decidable (ZAO a b):=by unfold ZAO;infer_instance
theorem RdE.but {w w':World} {v:Value} {l:List Ent} (h:RdE w v l) {R T:Nat} (hb:But R T w w') (hn:l=[]∨∀ b,v.ownBlock=some b->b≠R∧b≠T):RdE w' v l:=by
 obtain⟨ao,cap,rfl,h2,h3,hn0,hw,h4⟩:=h
 refine⟨ao,cap,rfl,h2,h3,hn0,hw,?_⟩
 rcases h4 with h4 | ⟨b,off,h5,h6⟩
 ·exact .inl h4
 ·by_cases hl:l=[]
  ·exact .inl hl
  ·refine .inr ⟨b,off,h5,fun j hj=>?_⟩
   have h7:=h6 j hj
   rcases hn with hn | hn
   ·exact absurd hn hl
   ·have h8:=hn b (by rw[h5];rfl)
    exact h7.keep (hb.block b h7.lt h8.1 h8.2)
theorem RdE.block {w:World} {v:Value} {l:List Ent} (h:RdE w v l):l=[]∨∀ b,v.ownBlock=some b->b<w.heap.size:=by
 obtain⟨ao,cap,rfl,h2,h3,hn0,hw,h4⟩:=h
 rcases h4 with h4 | ⟨b,off,rfl,h6⟩
 ·exact .inl h4
 ·by_cases hl:l=[]
  ·exact .inl hl
  ·refine .inr fun c hc=>?_
   have e:b=c:=by simpa[Value.ownBlock] using hc
   rw[<-e]
   exact(h6 0 (List.length_pos_iff.2 hl)).lt
theorem RdI.old {w:World} {v:Value} {l:List Int} (h:RdI w v l):l=[]∨∀ b,v.ownBlock=some b->b<w.heap.size:=by
 rcases h.block with h | ⟨_,b,hb,hlt⟩
 ·exact .inl h
 ·refine .inr fun c hc=>?_
  rw[hb] at hc
  injection hc with hc
  omega
theorem Zbs.fresh {w:World} {B:Nat} {v:Value} {l:List Ent} (h:Zbs w B v l):∀ b,v.ownBlock=some b->B<=b:=fun b hb=>(World.ownsRow.lt h b hb).1
def Zfj (w:World) (r:ZaU × Int) (e:Ending) (w':World):Prop:=
 ∃ vl vt,e=.returned (.tuple #[.agg #[.int .i64 r.1.idx,.int .i64 r.1.st.kind,vl,.bool r.1.st.shut,.int .i64 r.1.st.eng,vt],.int .i64 r.2])∧RdI w' vl r.1.st.L∧I64 r.1.st.kind∧I64 r.1.st.eng∧RdE w' vt r.1.tab∧I64 r.1.idx∧(∀ b,vl.ownBlock=some b->w.heap.size<=b)∧(∀ b,vt.ownBlock=some b->w.heap.size<=b)∧Below w.heap.size w w'
theorem Zfj.zero {w w':World} (n:Int) (hb:Below w.heap.size w w'):Zfj w (Zbi,n) (.returned (.tuple #[.agg #[.int .i64 0,.int .i64 0,.slice none 0 0,.bool false,.int .i64 0,.slice none 0 0],.int .i64 n])) w':=
 ⟨_,_,rfl,RdI.nil _,(Zai (by decide) (by decide):I64 0),(Zai (by decide) (by decide):I64 0),RdE.nil _,(Zai (by decide) (by decide):I64 0),fun b hb=>by simp[Value.ownBlock] at hb,fun b hb=>by simp[Value.ownBlock] at hb,hb⟩
theorem SnV.below {w w':World} {v:Value} {s:ZaU} (h:SnV w v s) {B:Nat} (hb:Below B w w') (hB:w.heap.size<=B):SnV w' v s:=by
 obtain⟨vl,vt,e,hl,hk,he,ht,hi⟩:=h
 exact⟨vl,vt,e,hl.below hb hB,hk,he,ht.below hb hB,hi⟩
def six (w:World) (R:Nat) (x0 x1 x2 x3 x4 x5:Value):World:=(((((w.setCell ⟨R,0,none⟩ x0).setCell ⟨R,1,none⟩ x1).setCell ⟨R,2,none⟩ x2).setCell ⟨R,3,none⟩ x3).setCell ⟨R,4,none⟩ x4).setCell ⟨R,5,none⟩ x5
theorem ZnF {C:Nat} {w0 w:World} (h:Below C w0 w) (R:Nat) (hR:C<=R) (x0 x1 x2 x3 x4 x5:Value):Below C w0 (six w R x0 x1 x2 x3 x4 x5):=
 (((((h.setCell hR _).setCell hR _).setCell hR _).setCell hR _).setCell hR _).setCell hR _
theorem Zec {C:Nat} {w0 w:World} (h:Below C w0 w) (R:Nat) (hR:C<=R) (x0 x1 x2 x3 x4 x5:Value):Below C w0 ((((((w.setCell ⟨R,0,none⟩ x0).setCell ⟨R,1,none⟩ x1).setCell ⟨R,2,none⟩ x2).setCell ⟨R,3,none⟩ x3).setCell ⟨R,4,none⟩ x4).setCell ⟨R,5,none⟩ x5):=ZnF h R hR x0 x1 x2 x3 x4 x5
theorem Zzr (w:World) (R:Nat) (x0 x1 x2 x3 x4 x5:Value):But R R w (six w R x0 x1 x2 x3 x4 x5):=
 ((((((But.refl R R w).set _ _ (.inl rfl) _).set _ _ (.inl rfl) _).set _ _ (.inl rfl) _).set _ _ (.inl rfl) _).set _ _ (.inl rfl) _).set _ _ (.inl rfl) _
theorem Bn.set {w:World} {b:Nat} {cs:Array Value} (h:Bn w b cs) (j:Nat) (x:Value):Bn (w.setCell ⟨b,j,none⟩ x) b (cs.setIfInBounds j x):=by
 have:=heap_setCell_same w b j _ _ x h
 unfold Bn
 simpa using this
theorem Bn.other {w:World} {b c:Nat} {cs:Array Value} (h:Bn w b cs) (j:Nat) (x:Value) (hne:b≠c):Bn (w.setCell ⟨c,j,none⟩ x) b cs:=(Below.heap_setCell _ _ _ _ hne).trans h
def ZlO (w:World) (b o:Nat) (r:Rec):Prop:=
 w.cell? ⟨b,o,none⟩=some (.int .i64 r.idx)∧w.cell? ⟨b,o+1,none⟩=some (.int .i64 r.proc)∧w.cell? ⟨b,o+2,none⟩=some (.int .i64 r.seq)∧w.cell? ⟨b,o+3,none⟩=some (.int .i64 r.op.code)∧w.cell? ⟨b,o+4,none⟩=some (.int .i64 r.op.a)∧w.cell? ⟨b,o+5,none⟩=some (.int .i64 r.op.b)∧w.cell? ⟨b,o+6,none⟩=some (.int .i64 r.resp)
theorem ZlO.lt {w:World} {b o:Nat} {r:Rec} (h:ZlO w b o r):b<w.heap.size:=World.block_lt_of_cell? w ⟨b,o,none⟩ h.1
theorem ZlO.keep {w w':World} {b o:Nat} {r:Rec} (h:ZlO w b o r) (hk:w'.heap[b]?=w.heap[b]?):ZlO w' b o r:=by
 have hc:∀ i,w'.cell? ⟨b,i,none⟩=w.cell? ⟨b,i,none⟩:=fun i=>World.cell?_of_block (a:=⟨b,i,none⟩) hk
 unfold ZlO at h ⊢
 simp only [hc]
 exact h
def RdR (w:World) (v:Value) (l:List Rec):Prop:=
 ∃ ao cap,v=.slice ao l.length cap∧l.length<=cap∧cap<=maxLen∧(ao=none->cap=0)∧(∀ r ∈ l,ZfA r)∧
  (l=[]∨∃ b off,ao=some ⟨b,off,none⟩∧∀ j,j<l.length->ZlO w b (off+j*7) (l.getD j Zaj))
theorem RdR.nil (w:World):RdR w (.slice none 0 0) []:=⟨none,0,rfl,Nat.le_refl _,Nat.zero_le _,fun _=>rfl,(fun r h=>by simp at h),.inl rfl⟩
theorem RdR.below {w w':World} {v:Value} {l:List Rec} (h:RdR w v l) {B:Nat} (hb:Below B w w') (hB:w.heap.size<=B):RdR w' v l:=by
 obtain⟨ao,cap,h1,h2,h3,hn,hw,h4⟩:=h
 refine⟨ao,cap,h1,h2,h3,hn,hw,?_⟩
 rcases h4 with h4 | ⟨b,off,h5,h6⟩
 ·exact .inl h4
 ·refine .inr ⟨b,off,h5,fun j hj=>?_⟩
  have h7:=h6 j hj
  exact h7.keep (hb.block b (by have:=h7.lt;omega))
def Zan:List Rec->List Value
 | []=>[]
 | r::t=>(Zei r).toList++Zan t
theorem Zbl:∀ l:List Rec,(Zan l).length=l.length*7
 | []=>rfl
 | r::t=>by
  rw[Zan,List.length_append,Zbl t,List.length_cons]
  simp[Zei]
  omega
theorem Zdq:∀ a b:List Rec,Zan (a++b)=Zan a++Zan b
 | [],_=>rfl
 | r::t,b=>by rw[List.cons_append,Zan,Zdq t b,Zan,List.append_assoc]
theorem Zet:∀ (l:List Rec) (j k:Nat),j<l.length->k<7->(Zan l)[j*7+k]?=(Zei (l.getD j Zaj))[k]?
 | r::t,0,k,_,hk=>by
  rw[Zan,Nat.zero_mul,Nat.zero_add,List.getElem?_append_left (by simp[Zei];omega)]
  simp[List.getD]
 | r::t,j+1,k,hj,hk=>by
  have e:(j+1)*7+k=(Zei r).toList.length+(j*7+k):=by simp[Zei];omega
  rw[Zan,e,List.getElem?_append_right (by omega),Nat.add_sub_cancel_left,Zet t j k (by simpa using hj) hk]
  simp[List.getD]
theorem Zeu (l:List Rec):∀ u ∈ Zan l,u.oneCell'=true:=by
 induction l with
 | nil=>intro u hu;simp[Zan] at hu
 | cons r t ih=>
  intro u hu
  rw[Zan] at hu
  rcases List.mem_append.1 hu with h | h
  ·simp[Zei] at h
   rcases h with rfl | rfl | rfl | rfl | rfl | rfl | rfl <;> rfl
  ·exact ih u h
def Zbm (w:World) (B:Nat) (v:Value) (l:List Rec):Prop:=w.ownsRow B 63 7 v l.length (Zan l)
theorem Zbm.nil (w:World) (B:Nat):Zbm w B (.slice none 0 0) []:=World.ownsRow_nil w B 63 7
theorem Zbm.rd {w:World} {B:Nat} {v:Value} {l:List Rec} (h:Zbm w B v l) (hw:∀ r ∈ l,ZfA r):RdR w v l:=by
 rcases h.2 with ⟨hv,hn⟩ | ⟨g,cap,cur,hv,hb,hg,hnc,hcm,hcs,htake⟩
 ·exact⟨none,0,by rw[hv,hn],by omega,Nat.zero_le _,fun _=>rfl,hw,.inl (List.eq_nil_of_length_eq_zero hn)⟩
 ·refine⟨some ⟨g,0,none⟩,cap,hv,hnc,hcm,(fun e=>by cases e),hw,.inr ⟨g,0,rfl,fun j hj=>?_⟩⟩
  have hc:∀ k u,k<7->(Zei (l.getD j Zaj))[k]?=some u->w.cell? ⟨g,0+j*7+k,none⟩=some u:=fun k u hk hu=>by
   have:=World.ownsRow.cells h (g:=g) (by rw[hv];rfl) (j*7+k) u ((Zet l j k hj hk).trans hu)
   rw[Addr.add_lit] at this
   rw[Nat.add_assoc]
   exact this
  exact⟨hc 0 _ (by decide) rfl,hc 1 _ (by decide) rfl,hc 2 _ (by decide) rfl,hc 3 _ (by decide) rfl,hc 4 _ (by decide) rfl,hc 5 _ (by decide) rfl,hc 6 _ (by decide) rfl⟩
theorem Zbm.below {w w':World} {B B':Nat} {v:Value} {l:List Rec} (h:Zbm w B v l) (hb:Below B' w w') (hB:w.heap.size<=B'):Zbm w' B v l:=by
 obtain⟨h1,h2⟩:=h
 refine⟨h1,?_⟩
 rcases h2 with h2 | ⟨g,cap,cur,hv,hbg,hg,r⟩
 ·exact .inl h2
 ·have hlt:g<w.heap.size:=(Array.getElem?_eq_some_iff.1 hg).1
  exact .inr ⟨g,cap,cur,hv,hbg,by rw[hb.block g (by omega)];exact hg,r⟩
theorem Zbm.mono {w:World} {B B':Nat} {v:Value} {l:List Rec} (h:Zbm w B v l) (hB:B'<=B):Zbm w B' v l:=by
 obtain⟨h1,h2⟩:=h
 refine⟨h1,?_⟩
 rcases h2 with h2 | ⟨g,cap,cur,hv,hb,r⟩
 ·exact .inl h2
 ·exact .inr ⟨g,cap,cur,hv,by omega,r⟩
theorem Zbm.shape {w:World} {B:Nat} {v:Value} {l:List Rec} (h:Zbm w B v l):∃ ao cap,v=.slice ao l.length cap:=by
 rcases h.2 with ⟨hv,hn⟩ | ⟨g,cap,cur,hv,_⟩
 ·exact⟨none,0,by rw[hv,hn]⟩
 ·exact⟨_,_,hv⟩
theorem Zge:(Tryz.prog.info? 63).map (fun i=>(i.zero,i.size,i.bytes))=some (some (.agg #[.int .i64 0,.int .i64 0,.int .i64 0,.int .i64 0,.int .i64 0,.int .i64 0,.int .i64 0]),7,56):=by kernel_rfl
theorem ZlP (w:World) (ty:TypeId) (B:Nat) (v:Value) (l:List Rec) (h:Zbm w B v l) (r:Rec) (hlim:l.length<=1000000) (hbase:B<=w.heap.size):
 ∃ v' w',(Builtin.append_ #[29,29] ty #[v,.slice (some ⟨w.heap.size,0,none⟩) 1 1]).run Tryz.prog (w.alloc (.cells (Zei r) 63))=.ok v' w'∧Zbm w' B v' (l++[r])∧Below B w w':=by
 obtain⟨i0,hi,hz0,hz1,hz2⟩:=info_parts Zge
 obtain⟨v',w',hrun,ho,hg,_⟩:=run_append_own (P:=Tryz.prog) (w.alloc (.cells (Zei r) 63)) B 29 ty 63 i0 _ 7 56 Tryz.underlying29 hi hz0 hz1 hz2 rfl (by decide) v l.length (Zan l) (h.alloc _)
  ⟨w.heap.size,0,none⟩ 1 1 (Zan [r]) (Zbl [r]) (fun j u hj=>by
   rw[Addr.add_lit,Nat.zero_add,cell_of_row _ w.heap.size j _ 63 (0,0) (heap_alloc_new w _)]
   simpa[Zan] using hj) (Zeu [r]) (by unfold maxLen;omega) (by omega) (by simp;omega)
 refine⟨v',w',hrun,?_,?_⟩
 ·unfold Zbm
  rw[List.length_append,Zdq]
  exact ho
 ·exact((Below.refl _ _).alloc hbase _).grown hg (by simp;omega) (fun k hk=>(World.ownsRow.lt h k hk).1)
theorem Zin (w:World) {ops:Array Oper} {rest:List Oper} {o:Oper} {a:Act} {Q:Exit->Act->World->Prop} (hgd:o.guard=none) (s x:Operand)
 (ho:o.op=.call { callee:=.builtin .append,args:=#[s,x],argTypes:=#[29,29] })
 (B:Nat) (v:Value) (l:List Rec) (hs:a.eval s=v) (hown:Zbm w B v l) (r:Rec) (hx:a.eval x=.slice (some ⟨w.heap.size,0,none⟩) 1 1)
 (hlim:l.length<=1000000) (hbase:B<=w.heap.size)
 (h:∀ v' w',Zbm w' B v' (l++[r])->Below B w w'->wpList Tryz.prog ops Q rest (a.put o.dst v') w'):wpList Tryz.prog ops Q (o::rest) a (w.alloc (.cells (Zei r) 63)):=
 wpList_plain hgd fun _ hK=>by
  obtain⟨v',w',hrun,h2,h3⟩:=ZlP w o.type B v l hown r hlim hbase
  unfold Oper.wp execOp
  simp only [ho,resolve,invoke,builtin,Sem.run_bind,Sem.run_pure,Result.andThen_ok,List.map_toArray,List.map_cons,List.map_nil,hs,hx,hrun]
  exact hK _ _ (h v' w' h2 h3)
theorem Zky:Tryz.prog.elem 29=63:=by kernel_rfl
theorem Zgf:Tryz.prog.underlying 29=some (.slice (Tryz.prog.elem 29)):=by rw[Zky];exact Tryz.underlying29
theorem ZsD (w:World):(sizeOf 63).run Tryz.prog w=.ok 7 w:=by
 obtain⟨i0,hi,_,hz1,_⟩:=info_parts Zge
 simp[sizeOf,typeInfo,hi,hz1]
theorem Br.set {w:World} {b:Nat} {cs:Array Value} (h:Br w b cs) (j:Nat) (x:Value):Br (w.setCell ⟨b,j,none⟩ x) b (cs.setIfInBounds j x):=by
 have:=heap_setCell_same w b j _ _ x h
 unfold Br
 simpa using this
theorem Zgt (n lo hi:Int) (a b:Nat) (w:World) (ha:w.cell? ⟨a,0,none⟩=some (.int .i64 lo)) (hb:w.cell? ⟨b,0,none⟩=some (.int .i64 hi)):
 Calls Tryz.prog 171 #[.int .i64 n,.pointer (some ⟨a,0,none⟩),.pointer (some ⟨b,0,none⟩)] w fun e w'=>e=.returned (.bool (decide (lo<=n∧n<=hi)))∧w'=w:=by
 have HD:Hid ((decide (lo<=n) && decide (n<=hi))=decide (lo<=n∧n<=hi)):=(Bool.decide_and _ _).symm
 have HT:Hid (lo<=n->decide (n<=hi)=decide (lo<=n∧n<=hi)):=fun h=>by rw[<-HD.out,decide_eq_true h,Bool.true_and]
 by_cases h1:lo<=n
 ·go_enter Tryz.func171,Tryz.ntmps171
  go_wp2
  go_ret
  exact⟨Zcs (HT.out h1),rfl⟩
 ·go_enter Tryz.func171,Tryz.ntmps171
  go_wp2
  go_ret
  exact⟨Zcs (by rw[decide_eq_false (Int.not_le.2 h1),Bool.false_and]),rfl⟩
theorem ZcD (lo hi:Int) (w:World):
 Calls Tryz.prog 122 #[.int .i64 lo,.int .i64 hi] w fun e w'=>∃ a b,e=.returned (.func (.func 171) #[] #[.pointer (some ⟨a,0,none⟩),.pointer (some ⟨b,0,none⟩)])∧w'.cell? ⟨a,0,none⟩=some (.int .i64 lo)∧w'.cell? ⟨b,0,none⟩=some (.int .i64 hi)∧Below w.heap.size w w':=by
 have hmf:∀ (fn:Fn) (first cap:Array Value) (w:World),(Instr.makeFunc fn first cap).run Tryz.prog w=.ok (.func fn first cap) w:=fun _ _ _ _=>rfl
 have HB:Hid (∀ x y,Below w.heap.size w ((w.alloc x).alloc y)):=fun x y=>((Below.refl _ _).alloc zL x).alloc (by simp) y
 go_enter Tryz.func122,Tryz.ntmps122
 go_wp2
 go_ret
 refine⟨_,_,rfl,?_,?_,HB.out _ _⟩
 ·rw[World.cell?_alloc_past _ _ _ (by simp),World.cell?_alloc_at _ _ _ _ rfl];rfl
 ·rw[World.cell?_alloc_at _ _ _ _ (by simp)];rfl
theorem Zio (n:Int):max (-1099511627776) (min n 1099511627776)=Zey n:=by
 unfold Zey
 split
 ·omega
 ·split <;> omega
theorem Zhw (n:Int) (w:World):Calls Tryz.prog 174 #[.int .i64 n] w fun e w'=>e=.returned (.int .i64 (Zey n))∧w'=w:=by
 by_cases h1:1099511627776<n
 ·go_enter Tryz.func174,Tryz.ntmps174
  go_wp2
  go_ret
  refine⟨ZzC ?_,rfl⟩
  first
   | exact Zio n
   | (unfold Zey;split <;> (try split) <;> omega)
 by_cases h2:n<=-1099511627776
 ·go_enter Tryz.func174,Tryz.ntmps174
  go_wp2
  go_ret
  refine⟨ZzC ?_,rfl⟩
  first
   | exact Zio n
   | (unfold Zey;split <;> (try split) <;> omega)
 ·go_enter Tryz.func174,Tryz.ntmps174
  go_wp2
  go_ret
  refine⟨ZzC ?_,rfl⟩
  first
   | exact Zio n
   | (unfold Zey;split <;> (try split) <;> omega)
theorem ZnG (ao:Option Addr) (n cap:Nat) (w:World):Calls Tryz.prog 178 #[.slice ao n cap] w fun e w'=>e=.returned (.bool (decide (n=128)))∧w'=w:=by
 by_cases h:n=128
 ·have HD:Hid (decide (n=128)=true):=decide_eq_true h
  have hq:((n:Int) == 128)=true:=beq_iff_eq.2 (by omega)
  clear h
  go_enter Tryz.func178,Tryz.ntmps178
  go_wp2
  go_ret
  exact⟨Zcs HD.out.symm,rfl⟩
 ·have HD:Hid (decide (n=128)=false):=decide_eq_false h
  have hq:((n:Int) == 128)=false:=beq_eq_false_iff_ne.2 (by omega)
  clear h
  go_enter Tryz.func178,Tryz.ntmps178
  go_wp2
  go_ret
  exact⟨Zcs HD.out.symm,rfl⟩
theorem ZsE {a b:Int} {c d:Bool} (h:a=b) (h2:c=d):Ending.returned (.tuple #[.int .i64 a,.bool c])=.returned (.tuple #[.int .i64 b,.bool d]):=by rw[h,h2]
theorem Zwf (v:Value) (l:List Int) (key:Int) (w:World) (hr:RdI w v l) (he:l.length % 2=0) (hlim:l.length<=1000000):
 Calls Tryz.prog 212 #[v,.int .i64 key] w fun e w'=>e=.returned (.tuple #[.int .i64 (Zap key l),.bool (decide (Zap key l<l.length∧l.getD (Zap key l) 0=key))])∧Below w.heap.size w w':=by
 obtain⟨ao,cap,rfl,-,-,-,-,hao⟩:=hr
 have HAO:=Zac hao
 clear hao
 obtain⟨P,hP⟩:∃ P,P=Zap key l:=⟨_,rfl⟩
 obtain⟨R,hR⟩:∃ R,R=decide (P<l.length∧l.getD P 0=key):=⟨_,rfl⟩
 rw[<-hP,<-hR]
 have HP:=Zac hP
 have HR:=Zac hR
 clear hP hR
 go_enter Tryz.func212,Tryz.ntmps212
 go_wp2
 go_loop [6] (fun i=>∃ k:Nat,i=.int .i64 k∧k<=l.length∧k % 2=0∧Hid (∀ j,j<k->j % 2=0->l.getD j 0<key)) (fun i=>l.length-(intOf i).toNat)
 case atStart=>exact⟨0,rfl,Nat.zero_le _,rfl,fun j hj=>by omega⟩
 case round=>
  obtain⟨k,rfl,hk,hk2,hall⟩:=hrel
  have HPK:Hid (P=k+Zap key (l.drop k)):=HP.out.trans (ZjY key l k he hk2 hk hall.out)
  by_cases hlt:k<l.length
  ·rcases HAO.out with h0 | ⟨g,off,rfl,hc⟩
   ·rw[h0] at hlt;simp at hlt
   have hck:=hc k hlt
   clear hc
   obtain⟨y,hy⟩:∃ y,y=l.getD k 0:=⟨_,rfl⟩
   rw[<-hy] at hck
   have HY:=Zac hy
   clear hy
   by_cases hge:key<=y
   ·have HK:Hid (P=k):=HPK.out.trans (by rw[Zqw key l k (by omega) (by rw[<-HY.out];exact hge)];exact Nat.add_zero k)
    have HG:Hid (R=(y == key)):=by
     rw[HR.out,HK.out,<-HY.out]
     by_cases e:y=key
     ·rw[beq_iff_eq.2 e];exact decide_eq_true ⟨hlt,e⟩
     ·rw[beq_eq_false_iff_ne.2 e];exact decide_eq_false (fun h=>e h.2)
    have hbk:(k:Int)<(l.length:Int):=by omega
    go_wp2
    go_quiet(fail)
    go_wp2
    go_ret2
    exact⟨ZsE (by rw[HK.out]) HG.out.symm,ZaM (Below.refl _ _) _⟩
   ·go_wp2
    go_round
    case rel=>
     refine⟨k+2,by go_num,by omega,by omega,fun j hj hj2=>?_⟩
     by_cases e:j=k
     ·rw[e,<-HY.out];omega
     ·exact hall.out j (by omega) hj2
    case measure=>simp[intOf];omega
  ·have HK:Hid (P=l.length):=by
    have e:k=l.length:=by omega
    rw[HPK.out,e,List.drop_length]
    exact rfl
   have HG:Hid (R=false):=HR.out.trans (decide_eq_false (fun h=>by have:=h.1;rw[HK.out] at this;omega))
   go_wp2
   go_ret2
   exact⟨ZsE (by rw[HK.out]) HG.out.symm,Below.refl _ _⟩
theorem Zip (v:Value) (l:List Int) (key least lo:Int) (w:World) (hr:RdI w v l) (hp:Zat least lo l) (hlim:l.length<=1000000):
 Calls Tryz.prog 212 #[v,.int .i64 key] w fun e w'=>e=.returned (.tuple #[.int .i64 (Zap key l),.bool (ZdH key l)])∧Below w.heap.size w w':=by
 rw[(ZeN key least l lo hp).1]
 exact Zwf v l key w hr (ZeI hp) hlim
theorem Zdr {least:Int}:∀ {l:List Int} {lo:Int},-1099511627776<=least->-1<=lo->Zat least lo l->∀ x ∈ l,I64 x
 | [],_,_,_,_,x,hx=>by simp at hx
 | [_],_,_,_,h,_,_=>by simp[Zat] at h
 | a::b::r,lo,hl,hlo,h,x,hx=>by
  unfold Zat at h
  have ih:=Zdr (l:=r) (lo:=a) hl (by omega) h.2.2.2.2 x
  simp at hx
  rcases hx with rfl | rfl | hx
  ·exact Zai (by omega) (by omega)
  ·exact Zai (by omega) (by omega)
  ·exact ih hx
theorem Zju (v:Value) (l:List Int) (key least lo:Int) (w:World) (hr:RdI w v l) (hp:Zat least lo l) (hlim:l.length<=1000000):
 Calls Tryz.prog 176 #[v,.int .i64 key] w fun e w'=>e=.returned (.tuple #[.int .i64 ((Zcm key l).getD 0),.bool (ZdH key l)])∧Below w.heap.size w w':=by
 have HPL:Hid (Calls Tryz.prog 212 #[v,.int .i64 key] w fun e w'=>e=.returned (.tuple #[.int .i64 (Zap key l),.bool (ZdH key l)])∧Below w.heap.size w w'):=Zip v l key least lo w hr hp hlim
 have HH:=Zac (ZeN key least l lo hp).2
 obtain⟨ao,cap,rfl,-,-,-,-,hao⟩:=hr
 have HAO:=Zac hao
 obtain⟨G,hG⟩:∃ G,G=(Zcm key l).getD 0:=⟨_,rfl⟩
 rw[<-hG]
 have HG:=Zac hG
 clear hao hp hG
 cases hh:ZdH key l
 ·rw[hh] at HPL
  have HZ:Hid (0=G):=by
   have:Zcm key l=none:=by
    unfold ZdH at hh
    cases h:Zcm key l with
    | none=>rfl
    | some x=>rw[h] at hh;simp at hh
   rw[HG.out,this]
   exact rfl
  clear hh HH
  go_enter Tryz.func176,Tryz.ntmps176
  go_wp2_with fail
  refine HPL.out.mono ?_
  rintro e W1 ⟨rfl,hb1⟩
  have HB1:=Zac hb1
  clear hb1
  go_wp2
  go_ret2
  exact⟨ZsE HZ.out rfl,HB1.out⟩
 ·rw[hh] at HPL
  obtain⟨h1,h2⟩:=HH.out hh
  have HZ:Hid (l.getD (Zap key l+1) 0=G):=by
   rw[HG.out,h1]
   exact rfl
  rcases HAO.out with h0 | ⟨g,off,rfl,hc⟩
  ·rw[h0] at h2;simp at h2
  have HC:Hid (∀ W,Below w.heap.size w W->W.cell? ⟨g,off+(Zap key l+1),none⟩=some (.int .i64 (l.getD (Zap key l+1) 0))):=fun W h=>(h.cell (World.block_lt_of_cell? w ⟨g,off+(Zap key l+1),none⟩ (hc _ h2))).trans (hc _ h2)
  clear hh HH h1 HAO hc HG
  generalize l.getD (Zap key l+1) 0=y at *
  generalize Zap key l=P at *
  have hPl:(P:Int)+1<(l.length:Int):=by omega
  clear h2
  go_enter Tryz.func176,Tryz.ntmps176
  go_wp2_with fail
  refine HPL.out.mono ?_
  rintro e W1 ⟨rfl,hb1⟩
  have HB1:=Zac hb1
  have hg:=HC.out _ hb1
  clear hb1
  go_wp2
  go_ret2
  exact⟨ZsE HZ.out rfl,HB1.out⟩
theorem Zjv (v:Value) (l:List Int) (key n least lo:Int) (B:Nat) (w:World) (ho:ZaA w B v l) (hB:B<=w.heap.size) (hi:∀ x ∈ l,I64 x) (hp:Zat least lo l) (hlim:l.length<=1000000):
 Calls Tryz.prog 179 #[v,.int .i64 key,.int .i64 n] w fun e w'=>∃ v',e=.returned v'∧ZaA w' B v' (ZaL key n false l)∧Mv w w' v v':=by
 have HPL:Hid (Calls Tryz.prog 212 #[v,.int .i64 key] w fun e w'=>e=.returned (.tuple #[.int .i64 (Zap key l),.bool (ZdH key l)])∧Below w.heap.size w w'):=Zip v l key least lo w (ho.rd hi) hp hlim
 have hle:=(ZjX key l (ZeI hp)).1
 have HH:=Zac (ZeN key least l lo hp).2
 have HO:=Zac ho
 cases hh:ZdH key l
 ·rw[hh] at HPL
  have HW:=Zac (ZiI key n least l lo hp hh)
  have HI:Hid (∀ W,ZaA W B v l->B<=W.heap.size->Calls Tryz.prog 213 #[v,.int .i64 (Zap key l),.slice (some ⟨W.heap.size,0,none⟩) 2 2] (W.alloc (.cells #[.int .i64 key,.int .i64 n] 3)) fun e w'=>∃ v',e=.returned v'∧ZaA w' B v' (l.take (Zap key l)++([key,n]++l.drop (Zap key l)))∧Mv W w' v v'):=
   fun W h1 h2=>ZqS v l B W h1 h2 hlim (Zap key l) hle _ rfl key n _ rfl
  obtain⟨L',hL'⟩:∃ L',L'=ZaL key n false l:=⟨_,rfl⟩
  rw[<-hL']
  rw[<-hL'] at HW
  have HWS:=Zac HW.out.symm
  rw[HWS.out] at HI
  clear hL' HW HWS ho hp HH hh hle
  generalize Zap key l=P at *
  go_enter Tryz.func179,Tryz.ntmps179
  go_wp2_with fail
  refine HPL.out.mono ?_
  rintro e W1 ⟨rfl,hb1⟩
  have HB1:=Zac hb1
  clear hb1
  go_wp2_with fail
  refine(HI.out W1 (HO.out.below HB1.out zL) (Nat.le_trans hB HB1.out.size)).mono ?_
  rintro e W2 ⟨v2,rfl,ho2,hb2⟩
  have HB2:=Zac ((Mv.ofBelow HB1.out v).trans hb2)
  have HO2:=Zac ho2
  clear hb2 ho2
  go_wp2
  go_ret
  exact⟨_,rfl,HO2.out,HB2.out⟩
 ·rw[hh] at HPL
  have HW:=Zac (ZoJ key n least l lo hp hh)
  obtain⟨h1,h2⟩:=HH.out hh
  obtain⟨L',hL'⟩:∃ L',L'=ZaL key n false l:=⟨_,rfl⟩
  rw[<-hL']
  rw[<-hL'] at HW
  have hsh:=ho.put _ h2 n
  obtain⟨g,cap,rfl,-,-,hBg,hgl,-,-⟩:=hsh
  have HS:Hid (∀ W,Below w.heap.size w W->W.cell? ⟨g,Zap key l+1,none⟩=some (.int .i64 (l.getD (Zap key l+1) 0))∧W.frozen? ⟨g,Zap key l+1,none⟩=false∧ZaA (W.setCell ⟨g,Zap key l+1,none⟩ (.int .i64 n)) B (.slice (some ⟨g,0,none⟩) l.length cap) L'∧Mv w (W.setCell ⟨g,Zap key l+1,none⟩ (.int .i64 n)) (.slice (some ⟨g,0,none⟩) l.length cap) (.slice (some ⟨g,0,none⟩) l.length cap)):=fun W hb=>by
   obtain⟨g',cap',hv,h3,h4,h5,h6,h7,h8⟩:=(HO.out.below hb zL).put _ h2 n
   simp only [Value.slice.injEq,Option.some.injEq,Addr.mk.injEq] at hv
   obtain⟨⟨rfl,_⟩,_,rfl⟩:=hv
   exact⟨h3,h4,by rw[HW.out];exact h7,(Mv.ofBelow hb _).trans h8⟩
  clear hL' HW ho hp HH hh hle h1 HO hi
  generalize l.getD (Zap key l+1) 0=y at *
  generalize Zap key l=P at *
  have hPl:(P:Int)+1<(l.length:Int):=by omega
  clear h2
  go_enter Tryz.func179,Tryz.ntmps179
  go_wp2_with fail
  refine HPL.out.mono ?_
  rintro e W1 ⟨rfl,hb1⟩
  obtain⟨c1,f1,o1,b1⟩:=HS.out _ hb1
  have HO1:=Zac o1
  have HB1:=Zac b1
  clear hb1 o1 b1
  go_wp2
  go_ret
  exact⟨_,rfl,HO1.out,HB1.out⟩
theorem Zyp (v:Value) (l:List Int) (key least lo:Int) (B:Nat) (w:World) (ho:ZaA w B v l) (hi:∀ x ∈ l,I64 x) (hp:Zat least lo l) (hlim:l.length<=1000000):
 Calls Tryz.prog 177 #[v,.int .i64 key] w fun e w'=>∃ v',e=.returned v'∧ZaA w' B v' (Zbc key l)∧Mv w w' v v':=by
 have HPL:Hid (Calls Tryz.prog 212 #[v,.int .i64 key] w fun e w'=>e=.returned (.tuple #[.int .i64 (Zap key l),.bool (ZdH key l)])∧Below w.heap.size w w'):=Zip v l key least lo w (ho.rd hi) hp hlim
 have hle:=(ZjX key l (ZeI hp)).1
 have HH:=Zac (ZeN key least l lo hp).2
 have HO:=Zac ho
 cases hh:ZdH key l
 ·rw[hh] at HPL
  have HW:=Zac (ZiJ key least l lo hp hh)
  rw[HW.out]
  clear HW ho hp HH hh hle hi
  generalize Zap key l=P at *
  go_enter Tryz.func177,Tryz.ntmps177
  go_wp2_with fail
  refine HPL.out.mono ?_
  rintro e W1 ⟨rfl,hb1⟩
  have HB1:=Zac hb1
  clear hb1
  go_wp2
  go_ret
  exact⟨_,rfl,HO.out.below HB1.out zL,Mv.ofBelow HB1.out v⟩
 ·rw[hh] at HPL
  have HW:=Zac (ZiK key least l lo hp hh)
  obtain⟨h1,h2⟩:=HH.out hh
  have HD:Hid (∀ W J,ZaA W B v l->J=((Zap key l+2:Nat):Int)->Calls Tryz.prog 211 #[v,.int .i64 (Zap key l),.int .i64 J] W fun e w'=>∃ v',e=.returned v'∧ZaA w' B v' (l.take (Zap key l)++l.drop (Zap key l+2))∧Mv W w' v v'):=
   fun W J h3 h4=>Zkt v l B W h3 (Zap key l) (Zap key l+2) (by omega) (by omega) _ _ rfl h4
  obtain⟨L',hL'⟩:∃ L',L'=Zbc key l:=⟨_,rfl⟩
  rw[<-hL']
  rw[<-hL'] at HW
  have HWS:=Zac HW.out.symm
  rw[HWS.out] at HD
  clear hL' HW HWS ho hp HH hh hle h1
  generalize Zap key l=P at *
  have hPl:(P:Int)+1<(l.length:Int):=by omega
  clear h2
  go_enter Tryz.func177,Tryz.ntmps177
  go_wp2_with fail
  refine HPL.out.mono ?_
  rintro e W1 ⟨rfl,hb1⟩
  have HB1:=Zac hb1
  clear hb1
  go_wp2_with fail
  refine(HD.out W1 _ (HO.out.below HB1.out zL) (by omega)).mono ?_
  rintro e W2 ⟨v2,rfl,ho2,hb2⟩
  have HB2:=Zac ((Mv.ofBelow HB1.out v).trans hb2)
  have HO2:=Zac ho2
  clear hb2 ho2
  go_wp2
  go_ret
  exact⟨_,rfl,HO2.out,HB2.out⟩
def ZgN (B:Nat) (w:World) (v:Value) (L:List Int) (n:Int) (e:Ending) (w':World):Prop:=
 ∃ v',e=.returned (.tuple #[v',.int .i64 n])∧ZaA w' B v' L∧Mv w w' v v'
theorem ZaA.alloc {w:World} {B:Nat} {v:Value} {l:List Int} (h:ZaA w B v l) (X:Obj):ZaA (w.alloc X) B v l:=World.ownsRow.alloc h X
theorem ZaA.single {w:World} {B:Nat} {v:Value} {l:List Int} (h:ZaA w B v l) (hl:l.length=1):
 ∃ g cap,v=.slice (some ⟨g,0,none⟩) 1 cap∧(∀ X,(w.alloc X).cell? ⟨g,0,none⟩=some (.int .i64 (l.getD 0 0))∧(w.alloc X).frozen? ⟨g,0,none⟩=false)∧g<w.heap.size∧
  ∀ X n,ZaA ((w.setCell ⟨g,0,none⟩ (.int .i64 n)).alloc X) B v [n]∧Mv w ((w.setCell ⟨g,0,none⟩ (.int .i64 n)).alloc X) v v:=by
 obtain⟨g,cap,rfl,-,-,hBg,hg,-,-⟩:=h.put 0 (by omega) 0
 refine⟨g,cap,by rw[hl],fun X=>?_,hg,fun X n=>?_⟩
 ·obtain⟨g',cap',hv,h3,h4,_⟩:=(h.alloc X).put 0 (by omega) 0
  simp only [Value.slice.injEq,Option.some.injEq,Addr.mk.injEq] at hv
  obtain⟨⟨rfl,_⟩,_,rfl⟩:=hv
  exact⟨h3,h4⟩
 ·obtain⟨g',cap',hv,h3,h4,_,_,h7,h8⟩:=h.put 0 (by omega) n
  simp only [Value.slice.injEq,Option.some.injEq,Addr.mk.injEq] at hv
  obtain⟨⟨rfl,_⟩,_,rfl⟩:=hv
  have e:l.set 0 n=[n]:=by
   match l,hl with
   | [_],_=>rfl
  rw[e] at h7
  exact⟨h7.alloc X,h8.trans (Mv.alloc _ _ X)⟩
theorem ZqX (v:Value) (l:List Int) (o:Opn) (shut:Bool) (g:Int) (B:Nat) (w:World) (ho:ZaA w B v l) (hl:l.length=1) (hb0:-1099511627776<=l.getD 0 0) (hb1:l.getD 0 0<=1099511627776):
 Calls Tryz.prog 125 #[v,opV o] w fun e w'=>e=.returned (.int .i64 (ZgW ⟨0,l,shut,g⟩ o).2)∧ZaA w' B v (ZgW ⟨0,l,shut,g⟩ o).1.L∧Mv w w' v v:=by
 obtain⟨code,a,b⟩:=o
 have HO:=Zac ho
 have HBA:Hid (∀ X,Mv w (w.alloc X) v v):=fun X=>Mv.alloc w v X
 have HC:=Zac (fun n w=>Zhw n w)
 obtain⟨c,cap,rfl,hcell,hlt,hput⟩:=ho.single hl
 have HPT:=Zac hput
 have hc:=fun X=>(hcell X).1
 have hf:=fun X=>(hcell X).2
 clear hput ho hcell
 obtain⟨n,hn⟩:∃ n,n=l.getD 0 0:=⟨_,rfl⟩
 rw[<-hn] at hb0 hb1
 simp only [<-hn] at hc
 have HN:=Zac hn
 have hca:=ZeY a
 clear hn hl
 show Calls Tryz.prog _ #[_,.agg #[.int .i64 code,.int .i64 a,.int .i64 b]] w _
 by_cases c1:code=1
 ·subst c1
  have HE:Hid (ZgW ⟨0,l,shut,g⟩ ⟨1,a,b⟩=(⟨0,[Zey (n+Zey a)],shut,g⟩,n)):=by rw[HN.out];exact if_pos ⟨rfl,rfl⟩
  rw[HE.out]
  go_enter Tryz.func125,Tryz.ntmps125
  go_wp2_with(first | (go_at_call 174;refine(HC.out _ _).mono ?_;rintro e w2 ⟨rfl,rfl⟩))
  go_ret
  exact⟨rfl,HPT.out _ _⟩
 ·have e1:(code == 1)=false:=beq_eq_false_iff_ne.2 c1
  by_cases c7:code=7
  ·have e7:(code == 7)=true:=beq_iff_eq.2 c7
   have HE:Hid (ZgW ⟨0,l,shut,g⟩ ⟨code,a,b⟩=(⟨0,l,shut,g⟩,n)):=by
    rw[HN.out]
    unfold ZgW
    rw[if_neg (by simp;omega),if_neg (by simp),if_pos c7]
    exact rfl
   rw[HE.out]
   clear c1 c7
   go_enter Tryz.func125,Tryz.ntmps125
   go_wp2
   go_ret
   exact⟨rfl,HO.out.alloc _,HBA.out _⟩
  ·have e7:(code == 7)=false:=beq_eq_false_iff_ne.2 c7
   have HE:Hid (ZgW ⟨0,l,shut,g⟩ ⟨code,a,b⟩=(⟨0,l,shut,g⟩,0)):=by
    unfold ZgW
    rw[if_neg (by simp;omega),if_neg (by simp),if_neg c7]
    exact rfl
   rw[HE.out]
   clear c1 c7
   go_enter Tryz.func125,Tryz.ntmps125
   go_wp2
   go_ret
   exact⟨rfl,HO.out.alloc _,HBA.out _⟩
theorem Zpf (v:Value) (l:List Int) (o:Opn) (shut:Bool) (g:Int) (B:Nat) (w:World) (ho:ZaA w B v l) (hl:l.length=1):
 Calls Tryz.prog 126 #[v,opV o] w fun e w'=>e=.returned (.int .i64 (ZgW ⟨1,l,shut,g⟩ o).2)∧ZaA w' B v (ZgW ⟨1,l,shut,g⟩ o).1.L∧Mv w w' v v:=by
 obtain⟨code,a,b⟩:=o
 have HO:=Zac ho
 have HBA:Hid (∀ X,Mv w (w.alloc X) v v):=fun X=>Mv.alloc w v X
 have HC:=Zac (fun n w=>Zhw n w)
 obtain⟨c,cap,rfl,hcell,hlt,hput⟩:=ho.single hl
 have HPT:=Zac hput
 have hc:=fun X=>(hcell X).1
 have hf:=fun X=>(hcell X).2
 clear hput ho hcell
 obtain⟨n,hn⟩:∃ n,n=l.getD 0 0:=⟨_,rfl⟩
 simp only [<-hn] at hc
 have HN:=Zac hn
 clear hn hl
 show Calls Tryz.prog _ #[_,.agg #[.int .i64 code,.int .i64 a,.int .i64 b]] w _
 by_cases c1:code=2
 ·subst c1
  have HE:Hid (ZgW ⟨1,l,shut,g⟩ ⟨2,a,b⟩=(⟨1,[Zey a],shut,g⟩,n)):=by rw[HN.out];exact rfl
  rw[HE.out]
  go_enter Tryz.func126,Tryz.ntmps126
  go_wp2_with(first | (go_at_call 174;refine(HC.out _ _).mono ?_;rintro e w2 ⟨rfl,rfl⟩))
  go_ret
  exact⟨rfl,HPT.out _ _⟩
 ·have e1:(code == 2)=false:=beq_eq_false_iff_ne.2 c1
  by_cases c7:code=7
  ·have e7:(code == 7)=true:=beq_iff_eq.2 c7
   have HE:Hid (ZgW ⟨1,l,shut,g⟩ ⟨code,a,b⟩=(⟨1,l,shut,g⟩,n)):=by
    rw[HN.out]
    unfold ZgW
    rw[if_neg (by simp),if_neg (by simp;omega),if_pos c7]
    exact rfl
   rw[HE.out]
   clear c1 c7
   go_enter Tryz.func126,Tryz.ntmps126
   go_wp2
   go_ret
   exact⟨rfl,HO.out.alloc _,HBA.out _⟩
  ·have e7:(code == 7)=false:=beq_eq_false_iff_ne.2 c7
   have HE:Hid (ZgW ⟨1,l,shut,g⟩ ⟨code,a,b⟩=(⟨1,l,shut,g⟩,0)):=by
    unfold ZgW
    rw[if_neg (by simp),if_neg (by simp;omega),if_neg c7]
    exact rfl
   rw[HE.out]
   clear c1 c7
   go_enter Tryz.func126,Tryz.ntmps126
   go_wp2
   go_ret
   exact⟨rfl,HO.out.alloc _,HBA.out _⟩
theorem ZzU (kind:Int) (hk:kind=2∨kind=3) (v:Value) (l:List Int) (shut:Bool) (g a b:Int) (B:Nat) (w:World) (ho:ZaA w B v l) (hi:∀ x ∈ l,I64 x) (h64:l.length<=64):
 Calls Tryz.prog 175 #[.int .i64 kind,v] w fun e w'=>ZgN B w v (Zco ⟨kind,l,shut,g⟩ ⟨4,a,b⟩).1.L (Zco ⟨kind,l,shut,g⟩ ⟨4,a,b⟩).2 e w':=by
 have HO:=Zac ho
 have hsh:=ho.shape
 by_cases h0:l.length=0
 ·have HE:Hid (Zco ⟨kind,l,shut,g⟩ ⟨4,a,b⟩=(⟨kind,l,shut,g⟩,-1)):=by
   unfold Zco
   rw[if_neg (by simp),if_pos rfl,if_pos h0]
   exact rfl
  rw[HE.out]
  obtain⟨ao,cap,rfl⟩:=hsh
  rw[h0]
  have HO0:Hid (ZaA w B (.slice ao 0 cap) l):=by
   have h:=HO.out
   rwa [h0] at h
  clear HO ho h0 HE hi h64
  go_enter Tryz.func175,Tryz.ntmps175
  go_wp2
  go_ret2
  exact⟨_,rfl,HO0.out,Mv.refl _ _⟩
 ·have hne:((l.length:Int) == 0)=false:=beq_eq_false_iff_ne.2 (by omega)
  have hne':l≠[]:=fun h=>h0 (by rw[h];rfl)
  have hrd:=ho.rd hi
  obtain⟨ao,cap,rfl⟩:=hsh
  have HD:Hid (∀ i:Nat,i<l.length->∀ I J,I=(i:Int)->J=((i+1:Nat):Int)->Calls Tryz.prog 211 #[.slice ao l.length cap,.int .i64 I,.int .i64 J] w fun e w'=>∃ v',e=.returned v'∧ZaA w' B v' (l.take i++l.drop (i+1))∧Mv w w' (.slice ao l.length cap) v'):=
   fun i hi I J h1 h2=>Zkt _ l B w HO.out i (i+1) (by omega) (by omega) I J h1 h2
  obtain⟨ao',cap',hv,-,-,-,-,hao⟩:=hrd
  simp only [Value.slice.injEq] at hv
  obtain⟨rfl,-,rfl⟩:=hv
  rcases hao with hx | ⟨c,off,rfl,hc⟩
  ·exact absurd hx hne'
  rcases hk with rfl | rfl
  ·have HE:Hid (Zco ⟨2,l,shut,g⟩ ⟨4,a,b⟩=(⟨2,l.take 0++l.drop (0+1),shut,g⟩,l.getD 0 0)):=by
    unfold Zco
    rw[if_neg (by simp),if_pos rfl,if_neg h0,if_pos rfl]
    exact rfl
   rw[HE.out]
   have hc0:=hc 0 (by omega)
   rw[Nat.add_zero] at hc0
   have HDD:=Zac (HD.out 0 (by omega))
   have hbk:(0:Int)<(l.length:Int):=by omega
   generalize l.getD 0 0=y at *
   generalize l.take 0++l.drop (0+1)=L' at *
   clear hc HD HE h0 hne' ho hi HO
   go_enter Tryz.func175,Tryz.ntmps175
   go_wp2_with fail
   refine(HDD.out _ _ (by simp) (by simp)).mono ?_
   rintro e W1 ⟨v1,rfl,ho1,hb1⟩
   have HO1:=Zac ho1
   have HB1:=Zac hb1
   clear ho1 hb1
   go_wp2
   go_ret2
   exact⟨_,rfl,HO1.out,HB1.out⟩
  ·have HE:Hid (Zco ⟨3,l,shut,g⟩ ⟨4,a,b⟩=(⟨3,l.take (l.length-1)++l.drop (l.length-1+1),shut,g⟩,l.getD (l.length-1) 0)):=by
    unfold Zco
    rw[if_neg (by simp),if_pos rfl,if_neg h0,if_neg (by simp)]
    have e:l.drop (l.length-1+1)=[]:=List.drop_of_length_le (by omega)
    rw[e,List.append_nil]
    exact rfl
   rw[HE.out]
   have hc0:=hc (l.length-1) (by omega)
   have HDD:=Zac (HD.out (l.length-1) (by omega))
   obtain⟨M,hM⟩:∃ M,M=l.length-1:=⟨_,rfl⟩
   rw[<-hM] at hc0 HDD ⊢
   have hlen:l.length=M+1:=by omega
   generalize l.getD M 0=y at *
   generalize l.take M++l.drop (M+1)=L' at *
   clear hc HD HE h0 hne' ho hi HO hM hne
   rw[hlen] at HDD ⊢
   have hM64:(M:Int)<64:=by omega
   clear hlen h64
   go_enter Tryz.func175,Tryz.ntmps175
   go_wp2_with fail
   refine(HDD.out _ _ (by simp) (by simp)).mono ?_
   rintro e W1 ⟨v1,rfl,ho1,hb1⟩
   have HO1:=Zac ho1
   have HB1:=Zac hb1
   clear ho1 hb1
   go_wp2
   go_ret2
   exact⟨_,rfl,HO1.out,HB1.out⟩
theorem ZbJ {v:Value} {a b:Int} (h:a=b):Ending.returned (.tuple #[v,.int .i64 a])=.returned (.tuple #[v,.int .i64 b]):=by rw[h]
theorem Zyq (kind:Int) (hk:kind=2∨kind=3) (v:Value) (l:List Int) (o:Opn) (shut:Bool) (g:Int) (B:Nat) (w:World) (ho:ZaA w B v l) (hB:B<=w.heap.size) (hi:∀ x ∈ l,I64 x) (h64:l.length<=64):
 Calls Tryz.prog 127 #[.int .i64 kind,v,opV o] w fun e w'=>ZgN B w v (Zco ⟨kind,l,shut,g⟩ o).1.L (Zco ⟨kind,l,shut,g⟩ o).2 e w':=by
 obtain⟨code,a,b⟩:=o
 have HO:=Zac ho
 have HBA:Hid (∀ X,Mv w (w.alloc X) v v):=fun X=>Mv.alloc w v X
 have HC:=Zac (fun n w=>Zhw n w)
 show Calls Tryz.prog _ #[_,_,.agg #[.int .i64 code,.int .i64 a,.int .i64 b]] w _
 by_cases c3:code=3
 ·subst c3
  obtain⟨ao,cap,rfl⟩:=ho.shape
  by_cases hf:l.length=64
  ·have HE:Hid (Zco ⟨kind,l,shut,g⟩ ⟨3,a,b⟩=(⟨kind,l,shut,g⟩,-1)):=by
    unfold Zco
    rw[if_pos rfl,if_pos hf]
    exact rfl
   rw[HE.out]
   have hq:((l.length:Int) == 64)=true:=beq_iff_eq.2 (by omega)
   clear hf HE ho hi h64 hk
   go_enter Tryz.func127,Tryz.ntmps127
   go_wp2
   go_ret2
   exact⟨_,rfl,HO.out.alloc _,HBA.out _⟩
  ·have HE:Hid (Zco ⟨kind,l,shut,g⟩ ⟨3,a,b⟩=(⟨kind,l++[Zey a],shut,g⟩,(l.length:Int)+1)):=by
    unfold Zco
    rw[if_pos rfl,if_neg hf]
    exact rfl
   rw[HE.out]
   have hq:((l.length:Int) == 64)=false:=beq_eq_false_iff_ne.2 (by omega)
   obtain⟨L',hL'⟩:∃ L',L'=l++[Zey a]:=⟨_,rfl⟩
   rw[<-hL']
   have HLL:=Zac hL'
   have HL:Hid ((L'.length:Int)=(l.length:Int)+1):=by rw[hL',List.length_append];exact rfl
   clear hf HE ho hi hk hL'
   go_enter Tryz.func127,Tryz.ntmps127
   go_wp2_with(first | (go_at_call 174;refine(HC.out _ _).mono ?_;rintro e w2 ⟨rfl,rfl⟩) | (at_builtin;refine Zhi _ rfl _ _ rfl B _ l rfl (HO.out.alloc _) _ _ rfl (by simp[Act.eval]) (by omega) (by simp;omega) ?_))
   intro v1 W1 ho1 hg1 ha1
   have hb1:=Mv.app hg1 (by simp) ha1
   clear hg1 ha1
   rw[<-HLL.out] at ho1
   have HO1:=Zac ho1
   obtain⟨ao1,cap1,rfl⟩:=ho1.shape
   have HB1:=Zac ((HBA.out _).trans hb1)
   clear ho1 hb1
   go_wp2
   go_ret2
   exact⟨_,ZbJ HL.out,HO1.out,HB1.out⟩
 ·have e3:(code == 3)=false:=beq_eq_false_iff_ne.2 c3
  by_cases c4:code=4
  ·subst c4
   have HP:Hid (∀ X,Calls Tryz.prog 175 #[.int .i64 kind,v] (w.alloc X) fun e w'=>ZgN B (w.alloc X) v (Zco ⟨kind,l,shut,g⟩ ⟨4,a,b⟩).1.L (Zco ⟨kind,l,shut,g⟩ ⟨4,a,b⟩).2 e w'):=fun X=>ZzU kind hk v l shut g a b B (w.alloc X) (HO.out.alloc X) hi h64
   generalize (Zco ⟨kind,l,shut,g⟩ ⟨4,a,b⟩).1.L=L' at *
   generalize (Zco ⟨kind,l,shut,g⟩ ⟨4,a,b⟩).2=n at *
   clear ho hi h64 hk c3 e3
   go_enter Tryz.func127,Tryz.ntmps127
   go_wp2_with fail
   refine(HP.out _).mono ?_
   rintro e W1 ⟨v1,rfl,ho1,hb1⟩
   have HO1:=Zac ho1
   have HB1:=Zac ((HBA.out _).trans hb1)
   clear ho1 hb1
   go_wp2
   go_ret2
   exact⟨_,rfl,HO1.out,HB1.out⟩
  ·have e4:(code == 4)=false:=beq_eq_false_iff_ne.2 c4
   obtain⟨ao,cap,rfl⟩:=ho.shape
   by_cases c7:code=7
   ·have e7:(code == 7)=true:=beq_iff_eq.2 c7
    have HE:Hid (Zco ⟨kind,l,shut,g⟩ ⟨code,a,b⟩=(⟨kind,l,shut,g⟩,(l.length:Int))):=by
     unfold Zco
     rw[if_neg c3,if_neg c4,if_pos c7]
     exact rfl
    rw[HE.out]
    clear ho hi h64 hk c3 c4 c7 HE
    go_enter Tryz.func127,Tryz.ntmps127
    go_wp2
    go_ret2
    exact⟨_,rfl,HO.out.alloc _,HBA.out _⟩
   ·have e7:(code == 7)=false:=beq_eq_false_iff_ne.2 c7
    have HE:Hid (Zco ⟨kind,l,shut,g⟩ ⟨code,a,b⟩=(⟨kind,l,shut,g⟩,0)):=by
     unfold Zco
     rw[if_neg c3,if_neg c4,if_neg c7]
     exact rfl
    rw[HE.out]
    clear ho hi h64 hk c3 c4 c7 HE
    go_enter Tryz.func127,Tryz.ntmps127
    go_wp2
    go_ret2
    exact⟨_,rfl,HO.out.alloc _,HBA.out _⟩
theorem ZaA.drew {w:World} {B:Nat} {v:Value} {l:List Int} (h:ZaA w B v l):ZaA w.drew B v l:=h
theorem Zev (key:Int) (l:List Int):Zdl key 0 l<0↔ZdH key l=false:=by
 rw[Zhg]
 unfold ZdH
 cases Zcm key l <;> simp
theorem Zwg {key:Int} {l:List Int} (h:ZdH key l=true):Ztf key l=(Zcm key l).getD 0:=by
 rw[Zqp]
 unfold ZdH at h
 cases hg:Zcm key l with
 | none=>rw[hg] at h;simp at h
 | some x=>rfl
theorem ZnH {key:Int} {l:List Int} (h:ZdH key l=false):Ztf key l=-1:=by
 rw[Zqp]
 unfold ZdH at h
 cases hg:Zcm key l with
 | none=>rfl
 | some x=>rw[hg] at h;simp at h
theorem ZtT (v:Value) (l:List Int) (o:Opn) (shut:Bool) (g:Int) (B:Nat) (w:World) (ho:ZaA w B v l) (hB:B<=w.heap.size) (hp:Zat (-1099511627776) (-1) l) (hlim:l.length<=128):
 Calls Tryz.prog 128 #[v,opV o] w fun e w'=>ZgN B w v (Zcb ⟨4,l,shut,g⟩ o).1.L (Zcb ⟨4,l,shut,g⟩ o).2 e w':=by
 obtain⟨code,a,b⟩:=o
 have hi:=Zdr (by decide) (by decide) hp
 have HO:=Zac ho
 have HBA:Hid (∀ X,Mv w (w.alloc X) v v):=fun X=>Mv.alloc w v X
 have HC:=Zac (fun n w=>Zhw n w)
 have HW:=Zac (fun p q W=>ZcD p q W)
 have HS:=Zac (fun n l2 h2 a2 b2 W p1 p2=>Zgt n l2 h2 a2 b2 W p1 p2)
 have HLK:Hid (∀ W,ZaA W B v l->Calls Tryz.prog 176 #[v,.int .i64 a] W fun e w'=>e=.returned (.tuple #[.int .i64 ((Zcm a l).getD 0),.bool (ZdH a l)])∧Below W.heap.size W w'):=fun W h=>Zju v l a _ _ W (h.rd hi) hp (by omega)
 have HPT:Hid (∀ n W,ZaA W B v l->B<=W.heap.size->Calls Tryz.prog 179 #[v,.int .i64 a,.int .i64 n] W fun e w'=>∃ v',e=.returned v'∧ZaA w' B v' (ZaL a n false l)∧Mv W w' v v'):=fun n W h1 h2=>Zjv v l a n _ _ B W h1 h2 hi hp (by omega)
 have HDR:Hid (∀ W,ZaA W B v l->B<=W.heap.size->Calls Tryz.prog 177 #[v,.int .i64 a] W fun e w'=>∃ v',e=.returned v'∧ZaA w' B v' (Zbc a l)∧Mv W w' v v'):=fun W h1 _=>Zyp v l a _ _ B W h1 hi hp (by omega)
 obtain⟨ao,cap,rfl⟩:=ho.shape
 have HFU:Hid (∀ W,Calls Tryz.prog 178 #[.slice ao l.length cap] W fun e w'=>e=.returned (.bool (decide (l.length=128)))∧w'=W):=fun W=>ZnG ao l.length cap W
 obtain⟨L',n',hE⟩:∃ L' n',Zcb ⟨4,l,shut,g⟩ ⟨code,a,b⟩=(⟨4,L',shut,g⟩,n'):=by
  unfold Zcb
  repeat' split
  all_goals exact⟨_,_,rfl⟩
 rw[hE]
 have HE:=Zac hE
 clear hE ho hp hi
 show Calls Tryz.prog _ #[_,.agg #[.int .i64 code,.int .i64 a,.int .i64 b]] w fun e w'=>ZgN B w (.slice ao l.length cap) L' n' e w'
 by_cases hk:0<=a∧a<=255
 ·have HN:=Zac (decide_eq_true hk)
  have HK:Hid (¬ (a<0∨255<a)):=by
   show ¬ (a<0∨255<a)
   omega
  clear hk
  cases hh:ZdH a l
  ·have HHF:=Zac ((Zev a l).2 hh)
   have HHD:=Zac (ZnH hh)
   rw[hh] at HLK
   clear hh
   generalize (Zcm a l).getD 0=y at *
   go_enter Tryz.func128,Tryz.ntmps128
   go_wp2_with fail
   refine(HW.out _ _ _).mono ?_
   rintro e W1 ⟨a1,b1,rfl,hc1,hc2,hb1⟩
   have hbx:=(hb1.block w.heap.size (by simp)).trans (heap_alloc_new w _)
   have p1:=cell_of_row W1 w.heap.size 1 _ _ _ hbx
   have HX1:=Zac hbx
   have HB1:=Zac ((HBA.out _).trans (Mv.ofBelow hb1 _))
   have HO1:=Zac ((HO.out.alloc _).below hb1 zL)
   clear hb1 hbx
   go_wp2_with fail
   refine(HS.out _ _ _ _ _ _ hc1 hc2).mono ?_
   rintro e W2 ⟨rfl,rfl⟩
   rw[HN.out]
   clear hc1 hc2
   go_wp2_with fail
   refine(HLK.out _ HO1.out).mono ?_
   rintro e W2 ⟨rfl,hb2⟩
   have hbx:=(hb2.block w.heap.size (Array.getElem?_eq_some_iff.1 HX1.out).1).trans HX1.out
   have p0:=cell_of_row W2 w.heap.size 0 _ _ _ hbx
   have q1:=cell_of_row W2 w.heap.size 1 _ _ _ hbx
   have q2:=cell_of_row W2 w.heap.size 2 _ _ _ hbx
   have HB2:=Zac (HB1.out.trans (Mv.ofBelow hb2 _))
   have HO2:=Zac (HO1.out.below hb2 zL)
   have hB2:B<=W2.heap.size:=Nat.le_trans hB HB2.out.size
   clear hb2 hbx HX1 HB1 HO1 p1
   by_cases c7:code=7
   ·have HR:Hid (L'=l∧n'=-1):=by
     have h:=HE.out
     unfold Zcb at h
     rw[if_neg HK.out,if_neg (show ¬ (code≠7∧code≠6∧code≠5) by omega),if_neg (show ¬ code=6 by omega),if_neg (show ¬ code=5 by omega),HHD.out] at h
     injection h with h1 h2
     injection h1 with _ h3
     exact⟨h3.symm,h2.symm⟩
    have e7:(code == 7)=true:=beq_iff_eq.2 c7
    clear c7
    go_wp2
    go_ret2
    exact⟨_,ZbJ HR.out.2.symm,by rw[HR.out.1];exact HO2.out,HB2.out⟩
   ·have e7:(code == 7)=false:=beq_eq_false_iff_ne.2 c7
    by_cases c6:code=6
    ·have HR:Hid (L'=Zbc a l∧n'=-1):=by
      have h:=HE.out
      unfold Zcb at h
      rw[if_neg HK.out,if_neg (show ¬ (code≠7∧code≠6∧code≠5) by omega),if_pos (show code=6 by omega),HHD.out] at h
      injection h with h1 h2
      injection h1 with _ h3
      exact⟨h3.symm,h2.symm⟩
     have e6:(code == 6)=true:=beq_iff_eq.2 c6
     clear c6 c7
     go_wp2_with fail
     refine(HDR.out _ HO2.out hB2).mono ?_
     rintro e W3 ⟨v3,rfl,ho3,hb3⟩
     have HB3:=Zac (HB2.out.trans hb3)
     have HO3:=Zac ho3
     clear ho3 hb3
     go_wp2
     go_ret2
     exact⟨_,ZbJ HR.out.2.symm,by rw[HR.out.1];exact HO3.out,HB3.out⟩
    ·have e6:(code == 6)=false:=beq_eq_false_iff_ne.2 c6
     by_cases c5:code=5
     ·have e5:(code == 5)=true:=beq_iff_eq.2 c5
      by_cases hf:l.length=128
      ·have HR:Hid (L'=l∧n'=-2):=by
        have h:=HE.out
        unfold Zcb at h
        rw[if_neg HK.out,if_neg (show ¬ (code≠7∧code≠6∧code≠5) by omega),if_neg (show ¬ code=6 by omega),if_pos c5,if_pos ⟨HHF.out,hf⟩] at h
        injection h with h1 h2
        injection h1 with _ h3
        exact⟨h3.symm,h2.symm⟩
       have HFD:=Zac (decide_eq_true hf)
       clear c5 c6 c7 hf
       go_wp2_with fail
       refine(HFU.out _).mono ?_
       rintro e W3 ⟨rfl,rfl⟩
       rw[HFD.out]
       go_wp2
       go_ret2
       exact⟨_,ZbJ HR.out.2.symm,by rw[HR.out.1];exact HO2.out,HB2.out⟩
      ·have HR:Hid (L'=ZaL a (Zey b) false l∧n'=-1):=by
        have h:=HE.out
        unfold Zcb at h
        rw[if_neg HK.out,if_neg (show ¬ (code≠7∧code≠6∧code≠5) by omega),if_neg (show ¬ code=6 by omega),if_pos c5,if_neg (fun h=>hf h.2),HHD.out] at h
        injection h with h1 h2
        injection h1 with _ h3
        exact⟨h3.symm,h2.symm⟩
       have HFD:=Zac (decide_eq_false hf)
       clear hf
       clear c5 c6 c7
       go_wp2_with fail
       refine(HFU.out _).mono ?_
       rintro e W3 ⟨rfl,rfl⟩
       rw[HFD.out]
       go_wp2
       go_region_with
        (first
         | (go_at_call 174;refine(HC.out _ _).mono ?_;rintro e w3 ⟨rfl,rfl⟩)
         | (go_at_call 179;refine(HPT.out _ _ HO2.out.drew hB2).mono ?_;rintro e W3 ⟨v3,rfl,ho3,hb3⟩;have HB3:=Zac (HB2.out.drew.trans hb3);have HO3:=Zac ho3;clear ho3 hb3))
       all_goals
        go_wp2
        go_ret2
        exact⟨_,ZbJ HR.out.2.symm,by rw[HR.out.1];exact HO3.out,HB3.out⟩
     ·have e5:(code == 5)=false:=beq_eq_false_iff_ne.2 c5
      have HR:Hid (L'=l∧n'=0):=by
       have h:=HE.out
       unfold Zcb at h
       rw[if_neg HK.out,if_pos (show(code≠7∧code≠6∧code≠5) by omega)] at h
       injection h with h1 h2
       injection h1 with _ h3
       exact⟨h3.symm,h2.symm⟩
      clear c5 c6 c7
      go_wp2
      go_ret2
      exact⟨_,ZbJ HR.out.2.symm,by rw[HR.out.1];exact HO2.out,HB2.out⟩
  ·have HHF:Hid (¬ Zdl a 0 l<0):=fun h=>by rw[(Zev a l).1 h] at hh;cases hh
   have HHD:=Zac (Zwg hh)
   rw[hh] at HLK
   clear hh
   generalize (Zcm a l).getD 0=y at *
   go_enter Tryz.func128,Tryz.ntmps128
   go_wp2_with fail
   refine(HW.out _ _ _).mono ?_
   rintro e W1 ⟨a1,b1,rfl,hc1,hc2,hb1⟩
   have hbx:=(hb1.block w.heap.size (by simp)).trans (heap_alloc_new w _)
   have p1:=cell_of_row W1 w.heap.size 1 _ _ _ hbx
   have HX1:=Zac hbx
   have HB1:=Zac ((HBA.out _).trans (Mv.ofBelow hb1 _))
   have HO1:=Zac ((HO.out.alloc _).below hb1 zL)
   clear hb1 hbx
   go_wp2_with fail
   refine(HS.out _ _ _ _ _ _ hc1 hc2).mono ?_
   rintro e W2 ⟨rfl,rfl⟩
   rw[HN.out]
   clear hc1 hc2
   go_wp2_with fail
   refine(HLK.out _ HO1.out).mono ?_
   rintro e W2 ⟨rfl,hb2⟩
   have hbx:=(hb2.block w.heap.size (Array.getElem?_eq_some_iff.1 HX1.out).1).trans HX1.out
   have p0:=cell_of_row W2 w.heap.size 0 _ _ _ hbx
   have q1:=cell_of_row W2 w.heap.size 1 _ _ _ hbx
   have q2:=cell_of_row W2 w.heap.size 2 _ _ _ hbx
   have HB2:=Zac (HB1.out.trans (Mv.ofBelow hb2 _))
   have HO2:=Zac (HO1.out.below hb2 zL)
   have hB2:B<=W2.heap.size:=Nat.le_trans hB HB2.out.size
   clear hb2 hbx HX1 HB1 HO1 p1
   by_cases c7:code=7
   ·have HR:Hid (L'=l∧n'=y):=by
     have h:=HE.out
     unfold Zcb at h
     rw[if_neg HK.out,if_neg (show ¬ (code≠7∧code≠6∧code≠5) by omega),if_neg (show ¬ code=6 by omega),if_neg (show ¬ code=5 by omega),HHD.out] at h
     injection h with h1 h2
     injection h1 with _ h3
     exact⟨h3.symm,h2.symm⟩
    have e7:(code == 7)=true:=beq_iff_eq.2 c7
    clear c7
    go_wp2
    go_ret2
    exact⟨_,ZbJ HR.out.2.symm,by rw[HR.out.1];exact HO2.out,HB2.out⟩
   ·have e7:(code == 7)=false:=beq_eq_false_iff_ne.2 c7
    by_cases c6:code=6
    ·have HR:Hid (L'=Zbc a l∧n'=y):=by
      have h:=HE.out
      unfold Zcb at h
      rw[if_neg HK.out,if_neg (show ¬ (code≠7∧code≠6∧code≠5) by omega),if_pos (show code=6 by omega),HHD.out] at h
      injection h with h1 h2
      injection h1 with _ h3
      exact⟨h3.symm,h2.symm⟩
     have e6:(code == 6)=true:=beq_iff_eq.2 c6
     clear c6 c7
     go_wp2_with fail
     refine(HDR.out _ HO2.out hB2).mono ?_
     rintro e W3 ⟨v3,rfl,ho3,hb3⟩
     have HB3:=Zac (HB2.out.trans hb3)
     have HO3:=Zac ho3
     clear ho3 hb3
     go_wp2
     go_ret2
     exact⟨_,ZbJ HR.out.2.symm,by rw[HR.out.1];exact HO3.out,HB3.out⟩
    ·have e6:(code == 6)=false:=beq_eq_false_iff_ne.2 c6
     by_cases c5:code=5
     ·have e5:(code == 5)=true:=beq_iff_eq.2 c5
      have HR:Hid (L'=ZaL a (Zey b) false l∧n'=y):=by
       have h:=HE.out
       unfold Zcb at h
       rw[if_neg HK.out,if_neg (show ¬ (code≠7∧code≠6∧code≠5) by omega),if_neg (show ¬ code=6 by omega),if_pos c5,if_neg (fun h=>absurd (show Zdl a 0 l<0 from h.1) (by have:=HHF.out;omega)),HHD.out] at h
       injection h with h1 h2
       injection h1 with _ h3
       exact⟨h3.symm,h2.symm⟩
      clear c5 c6 c7
      go_wp2
      go_region_with
       (first
        | (go_at_call 174;refine(HC.out _ _).mono ?_;rintro e w3 ⟨rfl,rfl⟩)
        | (go_at_call 179;refine(HPT.out _ _ HO2.out.drew hB2).mono ?_;rintro e W3 ⟨v3,rfl,ho3,hb3⟩;have HB3:=Zac (HB2.out.drew.trans hb3);have HO3:=Zac ho3;clear ho3 hb3))
      all_goals
       go_wp2
       go_ret2
       exact⟨_,ZbJ HR.out.2.symm,by rw[HR.out.1];exact HO3.out,HB3.out⟩
     ·have e5:(code == 5)=false:=beq_eq_false_iff_ne.2 c5
      have HR:Hid (L'=l∧n'=0):=by
       have h:=HE.out
       unfold Zcb at h
       rw[if_neg HK.out,if_pos (show(code≠7∧code≠6∧code≠5) by omega)] at h
       injection h with h1 h2
       injection h1 with _ h3
       exact⟨h3.symm,h2.symm⟩
      clear c5 c6 c7
      go_wp2
      go_ret2
      exact⟨_,ZbJ HR.out.2.symm,by rw[HR.out.1];exact HO2.out,HB2.out⟩
 ·have HN:=Zac (decide_eq_false hk)
  have HR:Hid (L'=l∧n'=-1):=by
   have h:=HE.out
   unfold Zcb at h
   rw[if_pos (show a<0∨255<a by omega)] at h
   injection h with h1 h2
   injection h1 with _ h3
   exact⟨h3.symm,h2.symm⟩
  clear hk
  go_enter Tryz.func128,Tryz.ntmps128
  go_wp2_with fail
  refine(HW.out _ _ _).mono ?_
  rintro e W1 ⟨a1,b1,rfl,hc1,hc2,hb1⟩
  have hbx:=(hb1.block w.heap.size (by simp)).trans (heap_alloc_new w _)
  have p1:=cell_of_row W1 w.heap.size 1 _ _ _ hbx
  have HX1:=Zac hbx
  have HB1:=Zac ((HBA.out _).trans (Mv.ofBelow hb1 _))
  have HO1:=Zac ((HO.out.alloc _).below hb1 zL)
  clear hb1 hbx
  go_wp2_with fail
  refine(HS.out _ _ _ _ _ _ hc1 hc2).mono ?_
  rintro e W2 ⟨rfl,rfl⟩
  rw[HN.out]
  clear hc1 hc2
  go_wp2
  go_ret2
  exact⟨_,ZbJ HR.out.2.symm,by rw[HR.out.1];exact HO1.out,HB1.out⟩
theorem ZqY (v:Value) (l:List Int) (a b:Int) (shut:Bool) (g:Int) (B:Nat) (w:World) (ho:ZaA w B v l) (hB:B<=w.heap.size) (hp:Zat 0 (-1) l) (hlim:l.length<=128):
 Calls Tryz.prog 180 #[v,.int .i64 a,.int .i64 b] w fun e w'=>ZgN B w v (ZaX ⟨5,l,shut,g⟩ ⟨8,a,b⟩).1.L (ZaX ⟨5,l,shut,g⟩ ⟨8,a,b⟩).2 e w':=by
 have hi:=Zdr (by decide) (by decide) hp
 have HO:=Zac ho
 have HC:=Zac (fun n w=>Zhw n w)
 have HW:=Zac (fun p q W=>ZcD p q W)
 have HS:=Zac (fun n l2 h2 a2 b2 W p1 p2=>Zgt n l2 h2 a2 b2 W p1 p2)
 have HLK:Hid (∀ W,ZaA W B v l->Calls Tryz.prog 176 #[v,.int .i64 a] W fun e w'=>e=.returned (.tuple #[.int .i64 (ZcW a l),.bool (ZdH a l)])∧Below W.heap.size W w'):=fun W h=>by
  rw[ZjI]
  exact Zju v l a _ _ W (h.rd hi) hp (by omega)
 have HPT:Hid (∀ n W,ZaA W B v l->B<=W.heap.size->Calls Tryz.prog 179 #[v,.int .i64 a,.int .i64 n] W fun e w'=>∃ v',e=.returned v'∧ZaA w' B v' (ZaL a n false l)∧Mv W w' v v'):=fun n W h1 h2=>Zjv v l a n _ _ B W h1 h2 hi hp (by omega)
 have hhb:=ZdR hp a
 obtain⟨ao,cap,rfl⟩:=ho.shape
 have HFU:Hid (∀ W,Calls Tryz.prog 178 #[.slice ao l.length cap] W fun e w'=>e=.returned (.bool (decide (l.length=128)))∧w'=W):=fun W=>ZnG ao l.length cap W
 obtain⟨L',n',hE⟩:∃ L' n',ZaX ⟨5,l,shut,g⟩ ⟨8,a,b⟩=(⟨5,L',shut,g⟩,n'):=by
  unfold ZaX
  rw[if_neg (by simp),if_neg (by simp)]
  repeat' split
  all_goals exact⟨_,_,rfl⟩
 rw[hE]
 have HE0:=Zac hE
 have HE:Hid ((if a<0∨255<a then((⟨5,l,shut,g⟩:St),(-1:Int)) else if b<0 then(⟨5,l,shut,g⟩,-1) else if Zdl a 0 l<0∧l.length=128 then(⟨5,l,shut,g⟩,-2) else(⟨5,ZaL a (Zey (ZcW a l+Zey b)) false l,shut,g⟩,Zey (ZcW a l+Zey b)))=(⟨5,L',shut,g⟩,n')):=by
  refine Zac ?_
  have h:=HE0.out
  unfold ZaX at h
  rw[if_neg (by simp),if_neg (by simp)] at h
  simpa using h
 clear hE ho hp hi HE0
 show Calls Tryz.prog _ _ w fun e w'=>ZgN B w (.slice ao l.length cap) L' n' e w'
 have hcb:=ZeY b
 by_cases hk:0<=a∧a<=255
 ·have HN:=Zac (decide_eq_true hk)
  have HK:Hid (¬ (a<0∨255<a)):=by
   show ¬ (a<0∨255<a)
   omega
  clear hk
  by_cases hb:b<0
  ·have HR:Hid (L'=l∧n'=-1):=by
    have h:=HE.out
    rw[if_neg HK.out,if_pos hb] at h
    injection h with h1 h2
    injection h1 with _ h3
    exact⟨h3.symm,h2.symm⟩
   go_enter Tryz.func180,Tryz.ntmps180
   go_wp2_with fail
   refine(HW.out _ _ _).mono ?_
   rintro e W1 ⟨a1,b1,rfl,hc1,hc2,hb1⟩
   have HB1:=Zac (Mv.ofBelow hb1 (.slice ao l.length cap))
   have HO1:=Zac (HO.out.below hb1 zL)
   clear hb1
   go_wp2_with fail
   refine(HS.out _ _ _ _ _ _ hc1 hc2).mono ?_
   rintro e W2 ⟨rfl,rfl⟩
   rw[HN.out]
   go_wp2
   go_ret2
   exact⟨_,ZbJ HR.out.2.symm,by rw[HR.out.1];exact HO1.out,HB1.out⟩
  ·go_enter Tryz.func180,Tryz.ntmps180
   go_wp2_with fail
   refine(HW.out _ _ _).mono ?_
   rintro e W1 ⟨a1,b1,rfl,hc1,hc2,hb1⟩
   have HB1:=Zac (Mv.ofBelow hb1 (.slice ao l.length cap))
   have HO1:=Zac (HO.out.below hb1 zL)
   clear hb1
   go_wp2_with fail
   refine(HS.out _ _ _ _ _ _ hc1 hc2).mono ?_
   rintro e W2 ⟨rfl,rfl⟩
   rw[HN.out]
   clear hc1 hc2
   go_wp2_with fail
   refine(HLK.out _ HO1.out).mono ?_
   rintro e W2 ⟨rfl,hb2⟩
   have HB2:=Zac (HB1.out.trans (Mv.ofBelow hb2 _))
   have HO2:=Zac (HO1.out.below hb2 zL)
   have hB2:B<=W2.heap.size:=Nat.le_trans hB HB2.out.size
   clear hb2 HB1 HO1
   by_cases hfull:ZdH a l=false∧l.length=128
   ·have HR:Hid (L'=l∧n'=-2):=by
     have h:=HE.out
     rw[if_neg HK.out,if_neg (show ¬ b<0 by omega),if_pos ⟨(Zev a l).2 hfull.1,hfull.2⟩] at h
     injection h with h1 h2
     injection h1 with _ h3
     exact⟨h3.symm,h2.symm⟩
    have HFD:=Zac (decide_eq_true hfull.2)
    rw[hfull.1]
    clear hfull
    go_wp2_with fail
    refine(HFU.out _).mono ?_
    rintro e W3 ⟨rfl,rfl⟩
    rw[HFD.out]
    go_wp2
    go_ret2
    exact⟨_,ZbJ HR.out.2.symm,by rw[HR.out.1];exact HO2.out,HB2.out⟩
   ·have HR:Hid (L'=ZaL a (Zey (ZcW a l+Zey b)) false l∧n'=Zey (ZcW a l+Zey b)):=by
     have h:=HE.out
     rw[if_neg HK.out,if_neg (show ¬ b<0 by omega),if_neg (fun h=>hfull ⟨(Zev a l).1 h.1,h.2⟩)] at h
     injection h with h1 h2
     injection h1 with _ h3
     exact⟨h3.symm,h2.symm⟩
    generalize ZcW a l=y at *
    cases hh:ZdH a l
    ·have HFD:=Zac (decide_eq_false (fun h=>hfull ⟨hh,h⟩))
     clear hfull hh
     go_wp2_with fail
     refine(HFU.out _).mono ?_
     rintro e W3 ⟨rfl,rfl⟩
     rw[HFD.out]
     go_wp2_with(first | (go_at_call 174;refine(HC.out _ _).mono ?_;rintro e w3 ⟨rfl,rfl⟩) | (go_at_call 179;refine(HPT.out _ _ HO2.out hB2).mono ?_;rintro e W3 ⟨v3,rfl,ho3,hb3⟩;have HB3:=Zac (HB2.out.trans hb3);have HO3:=Zac ho3;clear ho3 hb3))
     go_ret2
     exact⟨_,ZbJ HR.out.2.symm,by rw[HR.out.1];exact HO3.out,HB3.out⟩
    ·clear hfull hh
     go_wp2_with(first | (go_at_call 174;refine(HC.out _ _).mono ?_;rintro e w3 ⟨rfl,rfl⟩) | (go_at_call 179;refine(HPT.out _ _ HO2.out hB2).mono ?_;rintro e W3 ⟨v3,rfl,ho3,hb3⟩;have HB3:=Zac (HB2.out.trans hb3);have HO3:=Zac ho3;clear ho3 hb3))
     go_ret2
     exact⟨_,ZbJ HR.out.2.symm,by rw[HR.out.1];exact HO3.out,HB3.out⟩
 ·have HN:=Zac (decide_eq_false hk)
  have HR:Hid (L'=l∧n'=-1):=by
   have h:=HE.out
   rw[if_pos (show a<0∨255<a by omega)] at h
   injection h with h1 h2
   injection h1 with _ h3
   exact⟨h3.symm,h2.symm⟩
  clear hk
  go_enter Tryz.func180,Tryz.ntmps180
  go_wp2_with fail
  refine(HW.out _ _ _).mono ?_
  rintro e W1 ⟨a1,b1,rfl,hc1,hc2,hb1⟩
  have HB1:=Zac (Mv.ofBelow hb1 (.slice ao l.length cap))
  have HO1:=Zac (HO.out.below hb1 zL)
  clear hb1
  go_wp2_with fail
  refine(HS.out _ _ _ _ _ _ hc1 hc2).mono ?_
  rintro e W2 ⟨rfl,rfl⟩
  rw[HN.out]
  go_wp2
  go_ret2
  exact⟨_,ZbJ HR.out.2.symm,by rw[HR.out.1];exact HO1.out,HB1.out⟩
theorem Zyr (v:Value) (l:List Int) (code a b:Int) (shut:Bool) (g:Int) (B:Nat) (w:World) (ho:ZaA w B v l) (hB:B<=w.heap.size) (hp:Zat 0 (-1) l) (hlim:l.length<=128):
 Calls Tryz.prog 181 #[v,.int .i64 a,.int .i64 b] w fun e w'=>ZgN B w v (Zej ⟨5,l,shut,g⟩ ⟨code,a,b⟩).1.L (Zej ⟨5,l,shut,g⟩ ⟨code,a,b⟩).2 e w':=by
 have hi:=Zdr (by decide) (by decide) hp
 have HO:=Zac ho
 have HW:=Zac (fun p q W=>ZcD p q W)
 have HS:=Zac (fun n l2 h2 a2 b2 W p1 p2=>Zgt n l2 h2 a2 b2 W p1 p2)
 have HLK:Hid (∀ k W,ZaA W B v l->Calls Tryz.prog 176 #[v,.int .i64 k] W fun e w'=>e=.returned (.tuple #[.int .i64 (ZcW k l),.bool (ZdH k l)])∧Below W.heap.size W w'):=fun k W h=>by
  rw[ZjI]
  exact Zju v l k _ _ W (h.rd hi) hp (by omega)
 obtain⟨ao,cap,rfl⟩:=ho.shape
 have HFU:Hid (∀ W,Calls Tryz.prog 178 #[.slice ao l.length cap] W fun e w'=>e=.returned (.bool (decide (l.length=128)))∧w'=W):=fun W=>ZnG ao l.length cap W
 obtain⟨L',n',hE⟩:∃ L' n',Zej ⟨5,l,shut,g⟩ ⟨code,a,b⟩=(⟨5,L',shut,g⟩,n'):=by
  unfold Zej
  repeat' split
  all_goals exact⟨_,_,rfl⟩
 rw[hE]
 have HE:=Zac hE
 have HP:=Zac hp
 have HI:=Zac hi
 clear hE ho hp hi
 show Calls Tryz.prog _ _ w fun e w'=>ZgN B w (.slice ao l.length cap) L' n' e w'
 by_cases hk:0<=a∧a<=65535
 ·have HN:=Zac (decide_eq_true hk)
  obtain⟨hk0,hk1⟩:=hk
  by_cases hb:b<0
  ·have HR:Hid (L'=l∧n'=0):=by
    have h:=HE.out
    unfold Zej at h
    rw[if_pos (.inr (.inr hb))] at h
    injection h with h1 h2
    injection h1 with _ h3
    exact⟨h3.symm,h2.symm⟩
   go_enter Tryz.func181,Tryz.ntmps181
   go_wp2_with fail
   refine(HW.out _ _ _).mono ?_
   rintro e W1 ⟨a1,b1,rfl,hc1,hc2,hb1⟩
   have HB1:=Zac (Mv.ofBelow hb1 (.slice ao l.length cap))
   have HO1:=Zac (HO.out.below hb1 zL)
   clear hb1
   go_wp2_with fail
   refine(HS.out _ _ _ _ _ _ hc1 hc2).mono ?_
   rintro e W2 ⟨rfl,rfl⟩
   rw[HN.out]
   go_wp2
   go_ret2
   exact⟨_,ZbJ HR.out.2.symm,by rw[HR.out.1];exact HO1.out,HB1.out⟩
  ·have hb':0<=b:=by omega
   have HEQ:Hid ((if Zdl (a / 256) 0 l<0∨ZcW (a / 256) l<b then((⟨5,l,shut,g⟩:St),(0:Int)) else if a / 256=a % 256 then(⟨5,l,shut,g⟩,1) else if(Zdl (a % 256) 0 l<0∧l.length=128)∨1099511627776<ZcW (a % 256) l+b then(⟨5,l,shut,g⟩,0) else(⟨5,ZaL (a % 256) (ZcW (a % 256) l+b) false (ZaL (a / 256) (ZcW (a / 256) l-b) false l),shut,g⟩,1))=(⟨5,L',shut,g⟩,n')):=by
    have h:=HE.out
    unfold Zej at h
    rw[if_neg (by simp;omega)] at h
    exact h
   clear HE hb
   have HD1:Hid (a.tdiv 256=a / 256):=Int.tdiv_eq_ediv_of_nonneg hk0
   have HD2:Hid (a.tmod 256=a % 256):=Int.tmod_eq_emod_of_nonneg hk0
   have hF0:0<=a / 256:=by omega
   have hF1:a / 256<=255:=by omega
   have hT0:0<=a % 256:=by omega
   have hT1:a % 256<=255:=by omega
   have hbF:=ZdR HP.out (a / 256)
   have hbT:=ZdR HP.out (a % 256)
   obtain⟨F,hF⟩:∃ F,F=a / 256:=⟨_,rfl⟩
   obtain⟨T,hT⟩:∃ T,T=a % 256:=⟨_,rfl⟩
   rw[<-hF] at HD1 HEQ hF0 hF1 hbF
   rw[<-hT] at HD2 HEQ hT0 hT1 hbT
   clear hF hT
   have hd1:=HD1.out
   have hd2:=HD2.out
   go_enter Tryz.func181,Tryz.ntmps181
   go_wp2_with fail
   refine(HW.out _ _ _).mono ?_
   rintro e W1 ⟨a1,b1,rfl,hc1,hc2,hb1⟩
   have HB1:=Zac (Mv.ofBelow hb1 (.slice ao l.length cap))
   have HO1:=Zac (HO.out.below hb1 zL)
   clear hb1
   go_wp2_with fail
   refine(HS.out _ _ _ _ _ _ hc1 hc2).mono ?_
   rintro e W2 ⟨rfl,rfl⟩
   rw[HN.out]
   clear hc1 hc2
   go_wp2_with fail
   refine(HLK.out _ _ HO1.out).mono ?_
   rintro e W2 ⟨rfl,hb2⟩
   have HB2:=Zac (HB1.out.trans (Mv.ofBelow hb2 _))
   have HO2:=Zac (HO1.out.below hb2 zL)
   have hB2:B<=W2.heap.size:=Nat.le_trans hB HB2.out.size
   clear hb2 HB1 HO1
   cases hh:ZdH F l
   ·have HR:Hid (L'=l∧n'=0):=by
     have h:=HEQ.out
     rw[if_pos (.inl ((Zev F l).2 hh))] at h
     injection h with h1 h2
     injection h1 with _ h3
     exact⟨h3.symm,h2.symm⟩
    clear hh
    go_wp2
    go_ret2
    exact⟨_,ZbJ HR.out.2.symm,by rw[HR.out.1];exact HO2.out,HB2.out⟩
   ·have HHF:Hid (¬ Zdl F 0 l<0):=fun h=>by rw[(Zev F l).1 h] at hh;cases hh
    clear hh
    by_cases hlt:ZcW F l<b
    ·have HR:Hid (L'=l∧n'=0):=by
      have h:=HEQ.out
      rw[if_pos (.inr hlt)] at h
      injection h with h1 h2
      injection h1 with _ h3
      exact⟨h3.symm,h2.symm⟩
     clear HHF
     go_wp2
     go_ret2
     exact⟨_,ZbJ HR.out.2.symm,by rw[HR.out.1];exact HO2.out,HB2.out⟩
    ·by_cases hFT:F=T
     ·have hq:(F == T)=true:=beq_iff_eq.2 hFT
      have HR:Hid (L'=l∧n'=1):=by
       have h:=HEQ.out
       rw[if_neg (fun h=>h.elim HHF.out hlt),if_pos hFT] at h
       injection h with h1 h2
       injection h1 with _ h3
       exact⟨h3.symm,h2.symm⟩
      clear HHF hFT
      go_wp2
      go_ret2
      exact⟨_,ZbJ HR.out.2.symm,by rw[HR.out.1];exact HO2.out,HB2.out⟩
     ·have hq:(F == T)=false:=beq_eq_false_iff_ne.2 hFT
      have HNQ:=Zac hFT
      have HLT:=Zac hlt
      clear hFT
      go_wp2_with fail
      refine(HLK.out _ _ HO2.out).mono ?_
      rintro e W3 ⟨rfl,hb3⟩
      have HB3:=Zac (HB2.out.trans (Mv.ofBelow hb3 _))
      have HO3:=Zac (HO2.out.below hb3 zL)
      have hB3:B<=W3.heap.size:=Nat.le_trans hB HB3.out.size
      clear hb3 HB2 HO2 hB2
      by_cases hful:ZdH T l=false∧l.length=128
      ·have HFD:=Zac (decide_eq_true hful.2)
       have HR:Hid (L'=l∧n'=0):=by
        have h:=HEQ.out
        rw[if_neg (fun h=>by have:=HHF.out;have:=HLT.out;omega),if_neg HNQ.out,if_pos (.inl ⟨(Zev T l).2 hful.1,hful.2⟩)] at h
        injection h with h1 h2
        injection h1 with _ h3
        exact⟨h3.symm,h2.symm⟩
       rw[hful.1]
       clear hful
       go_wp2_with fail
       refine(HFU.out _).mono ?_
       rintro e W4 ⟨rfl,rfl⟩
       rw[HFD.out]
       go_wp2
       go_ret2
       exact⟨_,ZbJ HR.out.2.symm,by rw[HR.out.1];exact HO3.out,HB3.out⟩
      ·by_cases hbig:1099511627776<ZcW T l+b
       ·have HR:Hid (L'=l∧n'=0):=by
         have h:=HEQ.out
         rw[if_neg (fun h=>by have:=HHF.out;have:=HLT.out;omega),if_neg HNQ.out,if_pos (.inr hbig)] at h
         injection h with h1 h2
         injection h1 with _ h3
         exact⟨h3.symm,h2.symm⟩
        cases hh:ZdH T l
        ·have HFD:=Zac (decide_eq_false (fun h=>hful ⟨hh,h⟩))
         clear hful hh
         go_wp2_with fail
         refine(HFU.out _).mono ?_
         rintro e W4 ⟨rfl,rfl⟩
         rw[HFD.out]
         go_wp2
         go_ret2
         exact⟨_,ZbJ HR.out.2.symm,by rw[HR.out.1];exact HO3.out,HB3.out⟩
        ·clear hful hh
         go_wp2
         go_ret2
         exact⟨_,ZbJ HR.out.2.symm,by rw[HR.out.1];exact HO3.out,HB3.out⟩
       ·have HBIG:=Zac hbig
        have HR:Hid (L'=ZaL T (ZcW T l+b) false (ZaL F (ZcW F l-b) false l)∧n'=1):=by
         have h:=HEQ.out
         rw[if_neg (fun h=>by have:=HHF.out;have:=HLT.out;omega),if_neg HNQ.out,if_neg (fun h=>h.elim (fun x=>hful ⟨(Zev T l).1 x.1,x.2⟩) (fun x=>by have:=HBIG.out;omega))] at h
         injection h with h1 h2
         injection h1 with _ h3
         exact⟨h3.symm,h2.symm⟩
        have HP1:Hid (Zat 0 (-1) (ZaL F (ZcW F l-b) false l)):=ZdV F _ 0 (by omega) (by omega) hF1 l (-1) HP.out (by omega)
        have HL1:Hid ((ZaL F (ZcW F l-b) false l).length<=1000000):=by
         have:=ZiG F (ZcW F l-b) l false
         show(ZaL F (ZcW F l-b) false l).length<=1000000
         omega
        have HPA:Hid (∀ W,ZaA W B (.slice ao l.length cap) l->B<=W.heap.size->Calls Tryz.prog 179 #[.slice ao l.length cap,.int .i64 F,.int .i64 (ZcW F l-b)] W fun e w'=>∃ v',e=.returned v'∧ZaA w' B v' (ZaL F (ZcW F l-b) false l)∧Mv W w' (.slice ao l.length cap) v'):=fun W h1 h2=>Zjv _ l F _ _ _ B W h1 h2 HI.out HP.out (by omega)
        have HPB:Hid (∀ v1 W,ZaA W B v1 (ZaL F (ZcW F l-b) false l)->B<=W.heap.size->Calls Tryz.prog 179 #[v1,.int .i64 T,.int .i64 (ZcW T l+b)] W fun e w'=>∃ v',e=.returned v'∧ZaA w' B v' (ZaL T (ZcW T l+b) false (ZaL F (ZcW F l-b) false l))∧Mv W w' v1 v'):=fun v1 W h1 h2=>Zjv v1 _ T _ _ _ B W h1 h2 (Zdr (by decide) (by decide) HP1.out) HP1.out HL1.out
        generalize ZaL T (ZcW T l+b) false (ZaL F (ZcW F l-b) false l)=L2 at *
        generalize ZaL F (ZcW F l-b) false l=L1 at *
        generalize ZcW F l=y at *
        generalize ZcW T l=z at *
        clear HP1 HL1 HEQ HLK
        cases hh:ZdH T l
        ·have HFD:=Zac (decide_eq_false (fun h=>hful ⟨hh,h⟩))
         clear hful hh
         go_wp2_with fail
         refine(HFU.out _).mono ?_
         rintro e W4 ⟨rfl,rfl⟩
         rw[HFD.out]
         go_wp2_with fail
         refine(HPA.out _ HO3.out hB3).mono ?_
         rintro e W5 ⟨v5,rfl,ho5,hb5⟩
         have HB5:=Zac (HB3.out.trans hb5)
         have HO5:=Zac ho5
         have hB5:B<=W5.heap.size:=Nat.le_trans hB HB5.out.size
         clear ho5 hb5
         go_wp2_with fail
         refine(HPB.out _ _ HO5.out hB5).mono ?_
         rintro e W6 ⟨v6,rfl,ho6,hb6⟩
         have HB6:=Zac (HB5.out.trans hb6)
         have HO6:=Zac ho6
         clear ho6 hb6
         go_wp2
         go_ret2
         exact⟨_,ZbJ HR.out.2.symm,by rw[HR.out.1];exact HO6.out,HB6.out⟩
        ·clear hful hh
         go_wp2_with fail
         refine(HPA.out _ HO3.out hB3).mono ?_
         rintro e W5 ⟨v5,rfl,ho5,hb5⟩
         have HB5:=Zac (HB3.out.trans hb5)
         have HO5:=Zac ho5
         have hB5:B<=W5.heap.size:=Nat.le_trans hB HB5.out.size
         clear ho5 hb5
         go_wp2_with fail
         refine(HPB.out _ _ HO5.out hB5).mono ?_
         rintro e W6 ⟨v6,rfl,ho6,hb6⟩
         have HB6:=Zac (HB5.out.trans hb6)
         have HO6:=Zac ho6
         clear ho6 hb6
         go_wp2
         go_ret2
         exact⟨_,ZbJ HR.out.2.symm,by rw[HR.out.1];exact HO6.out,HB6.out⟩
 ·have HN:=Zac (decide_eq_false hk)
  have HR:Hid (L'=l∧n'=0):=by
   have h:=HE.out
   unfold Zej at h
   rw[if_pos (show a<0∨65535<a∨b<0 by omega)] at h
   injection h with h1 h2
   injection h1 with _ h3
   exact⟨h3.symm,h2.symm⟩
  clear hk
  go_enter Tryz.func181,Tryz.ntmps181
  go_wp2_with fail
  refine(HW.out _ _ _).mono ?_
  rintro e W1 ⟨a1,b1,rfl,hc1,hc2,hb1⟩
  have HB1:=Zac (Mv.ofBelow hb1 (.slice ao l.length cap))
  have HO1:=Zac (HO.out.below hb1 zL)
  clear hb1
  go_wp2_with fail
  refine(HS.out _ _ _ _ _ _ hc1 hc2).mono ?_
  rintro e W2 ⟨rfl,rfl⟩
  rw[HN.out]
  go_wp2
  go_ret2
  exact⟨_,ZbJ HR.out.2.symm,by rw[HR.out.1];exact HO1.out,HB1.out⟩
end Go.Proofs.YtfiffndhehkapaaGreatDoor
