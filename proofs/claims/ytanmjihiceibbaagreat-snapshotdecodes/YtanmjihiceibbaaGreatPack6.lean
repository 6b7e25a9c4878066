import Derived.Test.YtanmjihiceibbaaGreatPack5
import Derived.Test.YtanmjihiceibbaaGreatPack3
import Derived.Test.YtanmjihiceibbaaGreatPack1
import Derived.ChangeSlices
import Derived.Deep.Slices
import Derived.WideShapes
/- Contracts of objs: act. -/
namespace Go.Proofs.YtanmjihiceibbaaGreat
open Go.RowKit

/-- The boxes of a call stay while a row that is none of them is changed. -/
theorem Boxes.mv {W W1 : World} {N : Nat} {s o r : Array Value} {v v' : Value} (h : Boxes W N s o r) (hv : ∀ b, v.ownBlock = some b → b < N) (hm : Mv W W1 v v') : Boxes W1 N s o r := by
  obtain ⟨h1, h2, h3⟩ := h
  have lt : ∀ k x, W.heap[k]? = some x → N ≤ k → W1.heap[k]? = some x := fun k x hk hN => by
    rw [hm.grown.block k (Array.getElem?_eq_some_iff.1 hk).1 (fun e => by have := hv k e.symm; omega)]
    exact hk
  exact ⟨lt _ _ h1 (by omega), lt _ _ h2 (by omega), lt _ _ h3 (by omega)⟩

/-- What a call makes of numbers, behind the writing of its boxes. -/
theorem act_fin {w W0 W1 F : World} {B : Nat} {v v' : Value} {l L' : List Int} (h0 : OwnI w B v l) (hb : Below w.heap.size w W0) (hs : W0.heap.size = w.heap.size + 3) (hm : Mv W0 W1 v v') (ho : OwnI W1 B v' L') (hF : But w.heap.size (w.heap.size + 1 + 1) W1 F) : OwnI F B v' L' ∧ Mv w F v v' := by
  have hv : ∀ b, v.ownBlock = some b → b < w.heap.size := fun b h => (World.ownsRow.lt h0 b h).2
  have hlies : ∀ b, v'.ownBlock = some b → v.ownBlock = some b ∨ w.heap.size + 3 ≤ b := fun b h => by
    rcases hm.lies b h with h' | h'
    · exact .inl h'
    · exact .inr (by omega)
  have hsz := hm.size
  refine ⟨ho.but hF (fun b h => ?_), ⟨⟨hF.os.trans (hm.grown.os.trans hb.os), hF.tape.trans (hm.grown.tape.trans hb.tape), hF.output.trans (hm.grown.output.trans hb.output), by have := hF.size; omega, fun k hk hne => ?_⟩, fun b h => ?_⟩⟩
  · rcases hlies b h with h' | h'
    · have := hv b h'
      omega
    · omega
  · rw [hF.block k (by omega) (by omega) (by omega), hm.grown.block k (by omega) hne]
    exact hb.block k hk
  · rcases hlies b h with h' | h'
    · exact .inl h'
    · exact .inr (by omega)

theorem three_boxes (w : World) (x y z : Obj) : Below w.heap.size w (((w.alloc x).alloc y).alloc z) ∧ (((w.alloc x).alloc y).alloc z).heap.size = w.heap.size + 3 :=
  ⟨(((Below.refl _ _).alloc (Nat.le_refl _) x).alloc (by simp) y).alloc (by simp; omega) z, by simp⟩

theorem OwnI.alloc3 {w : World} {B : Nat} {v : Value} {l : List Int} (h : OwnI w B v l) (x y z : Obj) : OwnI (((w.alloc x).alloc y).alloc z) B v l := ((h.alloc x).alloc y).alloc z

/-- What act answers. -/
def Did (B : Nat) (w : World) (v : Value) (r : St × Int) (e : Ending) (w' : World) : Prop :=
  ∃ v', e = .returned (.tuple #[.agg #[.int .i64 r.1.kind, v', .bool r.1.shut, .int .i64 r.1.eng], .int .i64 r.2]) ∧ OwnI w' B v' r.1.L ∧ Mv w w' v v'

set_option maxRecDepth 100000 in
set_option maxHeartbeats 2000000 in
theorem actShut_any (kind g : Int) (l : List Int) (v : Value) (o : Opn) (B : Nat) (w : World) (ho : OwnI w B v l) :
    Calls Tryz.prog 66 #[.agg #[.int .i64 kind, v, .bool true, .int .i64 g], opV o] w fun e w' => Did B w v (⟨kind, l, true, g⟩, -1125899906842624) e w' := by
  obtain ⟨code, a, b⟩ := o
  have HO := hide' ho
  obtain ⟨ao, cap, rfl⟩ := ho.shape
  have HM : Hid (∀ x y z, Mv w (((w.alloc x).alloc y).alloc z) (.slice ao l.length cap) (.slice ao l.length cap)) := fun x y z => Mv.ofBelow (three_boxes w x y z).1 _
  clear ho
  show Calls Tryz.prog _ #[_, .agg #[.int .i64 code, .int .i64 a, .int .i64 b]] w _
  go_enter Tryz.func66, Tryz.ntmps66
  go_wp2
  refine bodyPost_ret (v := .tuple #[.agg #[.int .i64 kind, .slice ao l.length cap, .bool true, .int .i64 g], .int .i64 (-1125899906842624)]) (by simp [results, Tryz.results66, go_sem]) rfl ?_
  exact ⟨_, rfl, HO.out.alloc3 _ _ _, HM.out _ _ _⟩

set_option maxRecDepth 100000 in
set_option maxHeartbeats 2000000 in
theorem actSeal_any (kind g a b : Int) (l : List Int) (v : Value) (B : Nat) (w : World) (ho : OwnI w B v l) :
    Calls Tryz.prog 66 #[.agg #[.int .i64 kind, v, .bool false, .int .i64 g], .agg #[.int .i64 10, .int .i64 a, .int .i64 b]] w fun e w' => Did B w v (⟨kind, l, true, if 0 ≤ a ∧ a ≤ 2 then a else g⟩, 0) e w' := by
  have HO := hide' ho
  obtain ⟨ao, cap, rfl⟩ := ho.shape
  have HSL := hide' (fun W => seal_any kind ao l.length cap false g a W)
  generalize (if 0 ≤ a ∧ a ≤ 2 then a else g) = t at *
  clear ho
  go_enter Tryz.func66, Tryz.ntmps66
  go_wp2_with fail
  refine (HSL.out _).mono ?_
  rintro e W1 ⟨rfl, hb1⟩
  have hbx := (Boxes.made w _ _ _).below hb1 (by simp)
  obtain ⟨r0, s0⟩ := hbx.r 0
  obtain ⟨r1, s1⟩ := hbx.r 1
  obtain ⟨r2, s2⟩ := hbx.r 2
  obtain ⟨r3, s3⟩ := hbx.r 3
  have HFIN := hide' (fun F hF => act_fin (F := F) HO.out (three_boxes w _ _ _).1 (three_boxes w _ _ _).2 (Mv.ofBelow hb1 _) ((HO.out.alloc3 _ _ _).below hb1 (Nat.le_refl _)) hF)
  clear hb1 hbx
  go_wp2
  refine bodyPost_ret (v := .tuple #[.agg #[.int .i64 kind, .slice ao l.length cap, .bool true, .int .i64 t], .int .i64 0]) (by simp [results, Tryz.results66, go_sem, r0, r1, r2, r3]) rfl ?_
  exact ⟨_, rfl, HFIN.out _ ((But.refl _ _ _).four _ (.inr rfl) _ _ _ _)⟩

set_option maxRecDepth 100000 in
set_option maxHeartbeats 2000000 in
theorem actOne_any (kind g : Int) (hk : kind = 0 ∨ kind = 1) (l : List Int) (v : Value) (o : Opn) (hc : o.code ≠ 10) (B : Nat) (w : World) (ho : OwnI w B v l) (hl : l.length = 1) (hb0 : -1099511627776 ≤ l.getD 0 0) (hb1 : l.getD 0 0 ≤ 1099511627776) :
    Calls Tryz.prog 66 #[.agg #[.int .i64 kind, v, .bool false, .int .i64 g], opV o] w fun e w' => Did B w v (oneS ⟨kind, l, false, g⟩ o) e w' := by
  have HO := hide' ho
  have hknd := one_kind ⟨kind, l, false, g⟩ o
  obtain ⟨L', n', hE⟩ : ∃ L' n', oneS ⟨kind, l, false, g⟩ o = (⟨kind, L', false, g⟩, n') := by
    obtain ⟨h1, h2, h3⟩ := hknd
    refine ⟨(oneS ⟨kind, l, false, g⟩ o).1.L, (oneS ⟨kind, l, false, g⟩ o).2, ?_⟩
    rcases hr : oneS ⟨kind, l, false, g⟩ o with ⟨⟨k1, l1, s1, g1⟩, n1⟩
    rw [hr] at h1 h2 h3
    simp only at h1 h2 h3
    rw [h1, h2, h3]
  have HC : Hid (∀ W, OwnI W B v l → Calls Tryz.prog (if kind = 0 then 94 else 95) #[v, opV o] W fun e w' => e = .returned (.int .i64 n') ∧ OwnI w' B v L' ∧ Mv W w' v v) := fun W h => by
    rcases hk with rfl | rfl
    · have := counter_any v l o false g B W h hl hb0 hb1
      rw [hE] at this
      exact this
    · have := register_any v l o false g B W h hl
      rw [hE] at this
      exact this
  rw [hE]
  obtain ⟨code, a, b⟩ := o
  have e10 : (code == 10) = false := beq_eq_false_iff_ne.2 hc
  obtain ⟨ao, cap, rfl⟩ := ho.shape
  have hv : ∀ b, (Value.slice ao l.length cap).ownBlock = some b → b < w.heap.size := fun b h => (World.ownsRow.lt ho b h).2
  have HV := hide' hv
  clear ho hE hknd hc hl hb0 hb1 hv
  show Calls Tryz.prog _ #[_, .agg #[.int .i64 code, .int .i64 a, .int .i64 b]] w _
  rcases hk with rfl | rfl
  · rw [if_pos rfl] at HC
    go_enter Tryz.func66, Tryz.ntmps66
    go_wp2_with fail
    refine (HC.out _ (HO.out.alloc3 _ _ _)).mono ?_
    rintro e W1 ⟨rfl, ho1, hm1⟩
    have hbx := (Boxes.made w _ _ _).mv HV.out hm1
    obtain ⟨q0, -⟩ := hbx.s 0
    obtain ⟨q1, -⟩ := hbx.s 1
    obtain ⟨q2, -⟩ := hbx.s 2
    obtain ⟨q3, -⟩ := hbx.s 3
    obtain ⟨r0, s0⟩ := hbx.r 0
    obtain ⟨r1, s1⟩ := hbx.r 1
    obtain ⟨r2, s2⟩ := hbx.r 2
    obtain ⟨r3, s3⟩ := hbx.r 3
    have HFIN := hide' (fun F hF => act_fin (F := F) HO.out (three_boxes w _ _ _).1 (three_boxes w _ _ _).2 hm1 ho1 hF)
    clear hbx ho1 hm1
    go_wp2
    refine bodyPost_ret (v := .tuple #[.agg #[.int .i64 0, .slice ao l.length cap, .bool false, .int .i64 g], .int .i64 n']) (by simp [results, Tryz.results66, go_sem, r0, r1, r2, r3]) rfl ?_
    exact ⟨_, rfl, HFIN.out _ ((But.refl _ _ _).four _ (.inr rfl) _ _ _ _)⟩
  · rw [if_neg (by decide)] at HC
    go_enter Tryz.func66, Tryz.ntmps66
    go_wp2_with fail
    refine (HC.out _ (HO.out.alloc3 _ _ _)).mono ?_
    rintro e W1 ⟨rfl, ho1, hm1⟩
    have hbx := (Boxes.made w _ _ _).mv HV.out hm1
    obtain ⟨q0, -⟩ := hbx.s 0
    obtain ⟨q1, -⟩ := hbx.s 1
    obtain ⟨q2, -⟩ := hbx.s 2
    obtain ⟨q3, -⟩ := hbx.s 3
    obtain ⟨r0, s0⟩ := hbx.r 0
    obtain ⟨r1, s1⟩ := hbx.r 1
    obtain ⟨r2, s2⟩ := hbx.r 2
    obtain ⟨r3, s3⟩ := hbx.r 3
    have HFIN := hide' (fun F hF => act_fin (F := F) HO.out (three_boxes w _ _ _).1 (three_boxes w _ _ _).2 hm1 ho1 hF)
    clear hbx ho1 hm1
    go_wp2
    refine bodyPost_ret (v := .tuple #[.agg #[.int .i64 1, .slice ao l.length cap, .bool false, .int .i64 g], .int .i64 n']) (by simp [results, Tryz.results66, go_sem, r0, r1, r2, r3]) rfl ?_
    exact ⟨_, rfl, HFIN.out _ ((But.refl _ _ _).four _ (.inr rfl) _ _ _ _)⟩

/-- A call that hands back the numbers and an answer. -/
theorem actMid {w W1 : World} {B : Nat} {kind g : Int} {l L' : List Int} {ao ao1 : Option Addr} {cap cap1 : Nat} {xs xo xr : Array Value} (h0 : OwnI w B (.slice ao l.length cap) l) (ho1 : OwnI W1 B (.slice ao1 L'.length cap1) L') (hm1 : Mv (((w.alloc (.cells xs 26)).alloc (.cells xo 40)).alloc (.cells xr 26)) W1 (.slice ao l.length cap) (.slice ao1 L'.length cap1)) :
    OwnI (wrote5 W1 w.heap.size (w.heap.size + 1 + 1) (.slice ao1 L'.length cap1) (.int .i64 kind) (.slice ao1 L'.length cap1) (.bool false) (.int .i64 g)) B (.slice ao1 L'.length cap1) L' ∧ Mv w (wrote5 W1 w.heap.size (w.heap.size + 1 + 1) (.slice ao1 L'.length cap1) (.int .i64 kind) (.slice ao1 L'.length cap1) (.bool false) (.int .i64 g)) (.slice ao l.length cap) (.slice ao1 L'.length cap1) :=
  act_fin h0 (three_boxes w _ _ _).1 (three_boxes w _ _ _).2 hm1 ho1 (((But.refl _ _ _).set _ _ (.inl rfl) _).four _ (.inr rfl) _ _ _ _)

set_option maxRecDepth 100000 in
set_option maxHeartbeats 2000000 in
theorem actLine_any (kind g : Int) (hk : kind = 2 ∨ kind = 3) (l L' : List Int) (n' : Int) (v : Value) (code a b : Int) (hc : code ≠ 10) (B : Nat) (w : World) (ho : OwnI w B v l)
    (HC : Hid (∀ W, OwnI W B v l → B ≤ W.heap.size → Calls Tryz.prog 96 #[.int .i64 kind, v, .agg #[.int .i64 code, .int .i64 a, .int .i64 b]] W fun e w' => Acted B W v L' n' e w')) (hB : B ≤ w.heap.size) :
    Calls Tryz.prog 66 #[.agg #[.int .i64 kind, v, .bool false, .int .i64 g], .agg #[.int .i64 code, .int .i64 a, .int .i64 b]] w fun e w' => Did B w v (⟨kind, L', false, g⟩, n') e w' := by
  have HO := hide' ho
  have e10 : (code == 10) = false := beq_eq_false_iff_ne.2 hc
  obtain ⟨ao, cap, rfl⟩ := ho.shape
  have hv : ∀ b, (Value.slice ao l.length cap).ownBlock = some b → b < w.heap.size := fun b h => (World.ownsRow.lt ho b h).2
  have HV := hide' hv
  clear ho hc hv
  rcases hk with rfl | rfl
  · go_enter Tryz.func66, Tryz.ntmps66
    go_wp2_with fail
    refine (HC.out _ (HO.out.alloc3 _ _ _) (by simp; omega)).mono ?_
    rintro e W1 ⟨v1, rfl, ho1, hm1⟩
    obtain ⟨ao1, cap1, rfl⟩ := ho1.shape
    have hbx := (Boxes.made w _ _ _).mv HV.out hm1
    obtain ⟨q0, -⟩ := hbx.s 0
    obtain ⟨q1, f1⟩ := hbx.s 1
    obtain ⟨q2, -⟩ := hbx.s 2
    obtain ⟨q3, -⟩ := hbx.s 3
    obtain ⟨r0, s0⟩ := hbx.r 0
    obtain ⟨r1, s1⟩ := hbx.r 1
    obtain ⟨r2, s2⟩ := hbx.r 2
    obtain ⟨r3, s3⟩ := hbx.r 3
    have HFIN := hide' (fun kind => actMid (kind := kind) (g := g) HO.out ho1 hm1)
    clear hbx ho1 hm1
    go_wp2
    refine bodyPost_ret (v := .tuple #[.agg #[.int .i64 2, .slice ao1 L'.length cap1, .bool false, .int .i64 g], .int .i64 n']) (by simp [results, Tryz.results66, go_sem, r0, r1, r2, r3]) rfl ?_
    exact ⟨_, rfl, HFIN.out _⟩
  · go_enter Tryz.func66, Tryz.ntmps66
    go_wp2_with fail
    refine (HC.out _ (HO.out.alloc3 _ _ _) (by simp; omega)).mono ?_
    rintro e W1 ⟨v1, rfl, ho1, hm1⟩
    obtain ⟨ao1, cap1, rfl⟩ := ho1.shape
    have hbx := (Boxes.made w _ _ _).mv HV.out hm1
    obtain ⟨q0, -⟩ := hbx.s 0
    obtain ⟨q1, f1⟩ := hbx.s 1
    obtain ⟨q2, -⟩ := hbx.s 2
    obtain ⟨q3, -⟩ := hbx.s 3
    obtain ⟨r0, s0⟩ := hbx.r 0
    obtain ⟨r1, s1⟩ := hbx.r 1
    obtain ⟨r2, s2⟩ := hbx.r 2
    obtain ⟨r3, s3⟩ := hbx.r 3
    have HFIN := hide' (fun kind => actMid (kind := kind) (g := g) HO.out ho1 hm1)
    clear hbx ho1 hm1
    go_wp2
    refine bodyPost_ret (v := .tuple #[.agg #[.int .i64 3, .slice ao1 L'.length cap1, .bool false, .int .i64 g], .int .i64 n']) (by simp [results, Tryz.results66, go_sem, r0, r1, r2, r3]) rfl ?_
    exact ⟨_, rfl, HFIN.out _⟩

set_option maxRecDepth 100000 in
set_option maxHeartbeats 2000000 in
theorem actStore_any (kind g : Int) (hk : kind = 4) (l L' : List Int) (n' : Int) (v : Value) (code a b : Int) (hc : code ≠ 10) (B : Nat) (w : World) (ho : OwnI w B v l)
    (HC : Hid (∀ W, OwnI W B v l → B ≤ W.heap.size → Calls Tryz.prog 97 #[v, .agg #[.int .i64 code, .int .i64 a, .int .i64 b]] W fun e w' => Acted B W v L' n' e w')) (hB : B ≤ w.heap.size) :
    Calls Tryz.prog 66 #[.agg #[.int .i64 kind, v, .bool false, .int .i64 g], .agg #[.int .i64 code, .int .i64 a, .int .i64 b]] w fun e w' => Did B w v (⟨kind, L', false, g⟩, n') e w' := by
  have HO := hide' ho
  have e10 : (code == 10) = false := beq_eq_false_iff_ne.2 hc
  obtain ⟨ao, cap, rfl⟩ := ho.shape
  have hv : ∀ b, (Value.slice ao l.length cap).ownBlock = some b → b < w.heap.size := fun b h => (World.ownsRow.lt ho b h).2
  have HV := hide' hv
  clear ho hc hv
  subst hk
  all_goals
    go_enter Tryz.func66, Tryz.ntmps66
    go_wp2_with fail
    refine (HC.out _ (HO.out.alloc3 _ _ _) (by simp; omega)).mono ?_
    rintro e W1 ⟨v1, rfl, ho1, hm1⟩
    obtain ⟨ao1, cap1, rfl⟩ := ho1.shape
    have hbx := (Boxes.made w _ _ _).mv HV.out hm1
    obtain ⟨q0, -⟩ := hbx.s 0
    obtain ⟨q1, f1⟩ := hbx.s 1
    obtain ⟨q2, -⟩ := hbx.s 2
    obtain ⟨q3, -⟩ := hbx.s 3
    obtain ⟨r0, s0⟩ := hbx.r 0
    obtain ⟨r1, s1⟩ := hbx.r 1
    obtain ⟨r2, s2⟩ := hbx.r 2
    obtain ⟨r3, s3⟩ := hbx.r 3
    have HFIN := hide' (fun kind => actMid (kind := kind) (g := g) HO.out ho1 hm1)
    clear hbx ho1 hm1
    go_wp2
    refine bodyPost_ret (v := .tuple #[.agg #[.int .i64 4, .slice ao1 L'.length cap1, .bool false, .int .i64 g], .int .i64 n']) (by simp [results, Tryz.results66, go_sem, r0, r1, r2, r3]) rfl ?_
    exact ⟨_, rfl, HFIN.out _⟩

set_option maxRecDepth 100000 in
set_option maxHeartbeats 2000000 in
theorem actLedger_any (kind g : Int) (hk : kind = 5) (l L' : List Int) (n' : Int) (v : Value) (code a b : Int) (hc : code ≠ 10) (B : Nat) (w : World) (ho : OwnI w B v l)
    (HC : Hid (∀ W, OwnI W B v l → B ≤ W.heap.size → Calls Tryz.prog 98 #[v, .agg #[.int .i64 code, .int .i64 a, .int .i64 b]] W fun e w' => Acted B W v L' n' e w')) (hB : B ≤ w.heap.size) :
    Calls Tryz.prog 66 #[.agg #[.int .i64 kind, v, .bool false, .int .i64 g], .agg #[.int .i64 code, .int .i64 a, .int .i64 b]] w fun e w' => Did B w v (⟨kind, L', false, g⟩, n') e w' := by
  have HO := hide' ho
  have e10 : (code == 10) = false := beq_eq_false_iff_ne.2 hc
  obtain ⟨ao, cap, rfl⟩ := ho.shape
  have hv : ∀ b, (Value.slice ao l.length cap).ownBlock = some b → b < w.heap.size := fun b h => (World.ownsRow.lt ho b h).2
  have HV := hide' hv
  clear ho hc hv
  subst hk
  all_goals
    go_enter Tryz.func66, Tryz.ntmps66
    go_wp2_with fail
    refine (HC.out _ (HO.out.alloc3 _ _ _) (by simp; omega)).mono ?_
    rintro e W1 ⟨v1, rfl, ho1, hm1⟩
    obtain ⟨ao1, cap1, rfl⟩ := ho1.shape
    have hbx := (Boxes.made w _ _ _).mv HV.out hm1
    obtain ⟨q0, -⟩ := hbx.s 0
    obtain ⟨q1, f1⟩ := hbx.s 1
    obtain ⟨q2, -⟩ := hbx.s 2
    obtain ⟨q3, -⟩ := hbx.s 3
    obtain ⟨r0, s0⟩ := hbx.r 0
    obtain ⟨r1, s1⟩ := hbx.r 1
    obtain ⟨r2, s2⟩ := hbx.r 2
    obtain ⟨r3, s3⟩ := hbx.r 3
    have HFIN := hide' (fun kind => actMid (kind := kind) (g := g) HO.out ho1 hm1)
    clear hbx ho1 hm1
    go_wp2
    refine bodyPost_ret (v := .tuple #[.agg #[.int .i64 5, .slice ao1 L'.length cap1, .bool false, .int .i64 g], .int .i64 n']) (by simp [results, Tryz.results66, go_sem, r0, r1, r2, r3]) rfl ?_
    exact ⟨_, rfl, HFIN.out _⟩

end Go.Proofs.YtanmjihiceibbaaGreat

/- Contracts of objs: mayLine, mayPairs. -/
namespace Go.Proofs.YtanmjihiceibbaaGreat
open Go.RowKit

set_option maxRecDepth 100000 in
set_option maxHeartbeats 1000000 in
theorem mayLine_any (v : Value) (l : List Int) (a b : Nat) (w : World) (hr : RdI w v l) (ha : w.cell? ⟨a, 0, none⟩ = some (.int .i64 (-1099511627776))) (hb : w.cell? ⟨b, 0, none⟩ = some (.int .i64 1099511627776)) :
    Calls Tryz.prog 109 #[v, .func (.func 108) #[] #[.pointer (some ⟨a, 0, none⟩), .pointer (some ⟨b, 0, none⟩)]] w fun e w' => e = .returned (.bool (decide (l.length ≤ 64 ∧ InBounds l))) ∧ w' = w := by
  have HI := hide' (fun n => is_any n _ _ a b w ha hb)
  obtain ⟨ao, cap, rfl, -, -, -, -, hao⟩ := hr
  have HAO := hide' hao
  clear hao ha hb
  obtain ⟨R, hR⟩ : ∃ R, R = decide (l.length ≤ 64 ∧ InBounds l) := ⟨_, rfl⟩
  rw [← hR]
  have HR := hide' hR
  clear hR
  by_cases h64 : l.length ≤ 64
  · have hq : ¬ (64 < (l.length : Int)) := by omega
    go_enter Tryz.func109, Tryz.ntmps109
    go_wp2
    go_loop [12] (fun i => ∃ k : Nat, i = .int .i64 k ∧ k ≤ l.length ∧ Hid (∀ j, j < k → -1099511627776 ≤ l.getD j 0 ∧ l.getD j 0 ≤ 1099511627776)) (fun i => l.length - (intOf i).toNat)
    case atStart => exact ⟨0, rfl, Nat.zero_le _, fun j hj => by omega⟩
    case round =>
      obtain ⟨k, rfl, hk, hall⟩ := hrel
      by_cases hlt : k < l.length
      · rcases HAO.out with h0 | ⟨g, off, rfl, hc⟩
        · rw [h0] at hlt; simp at hlt
        have hck := hc k hlt
        clear hc
        obtain ⟨y, hy⟩ : ∃ y, y = l.getD k 0 := ⟨_, rfl⟩
        rw [← hy] at hck
        have HY := hide' hy
        clear hy
        by_cases hin : -1099511627776 ≤ y ∧ y ≤ 1099511627776
        · have HD := hide' (decide_eq_true hin)
          have HN := hide' hin
          clear hin
          go_wp2_with (first | (go_at_call 108; refine (HI.out _).mono ?_; rintro e w2 ⟨rfl, rfl⟩; rw [HD.out]))
          go_round
          case rel =>
            refine ⟨k + 1, by go_num, by omega, fun j hj => ?_⟩
            by_cases e : j = k
            · rw [e, ← HY.out]; exact HN.out
            · exact hall.out j (by omega)
          case measure => simp [intOf]; omega
        · have HD := hide' (decide_eq_false hin)
          have HN := hide' hin
          clear hin
          go_wp2_with (first | (go_at_call 108; refine (HI.out _).mono ?_; rintro e w2 ⟨rfl, rfl⟩; rw [HD.out]))
          go_ret
          refine ⟨ret_b (HR.out.trans (decide_eq_false fun h => HN.out ?_)).symm, rfl⟩
          rw [HY.out]
          exact h.2 k hlt
      · go_wp2
        go_ret
        exact ⟨ret_b (HR.out.trans (decide_eq_true ⟨h64, fun j hj => hall.out j (by omega)⟩)).symm, rfl⟩
  · have hq : 64 < (l.length : Int) := by omega
    have HD : Hid (decide (l.length ≤ 64 ∧ InBounds l) = false) := decide_eq_false (fun h => h64 h.1)
    go_enter Tryz.func109, Tryz.ntmps109
    go_wp2
    go_ret
    exact ⟨ret_b (HR.out.trans HD.out).symm, rfl⟩

/-- What the next key may be at the least. -/
def leastAt (l : List Int) (k : Nat) : Int := if k = 0 then 0 else l.getD (k - 2) 0 + 1

theorem pairAt_least {lo : Int} {l : List Int} {k : Nat} (hk : k % 2 = 0) (hall : ∀ j, j < k → j % 2 = 0 → PairAt lo l j) : PairAt lo l k ↔ (leastAt l k ≤ l.getD k 0 ∧ l.getD k 0 ≤ 255) ∧ lo ≤ l.getD (k + 1) 0 ∧ l.getD (k + 1) 0 ≤ 1099511627776 := by
  unfold PairAt leastAt
  by_cases h0 : k = 0
  · subst h0
    simp
    omega
  · rw [if_neg h0]
    have hp := (hall (k - 2) (by omega) (by omega)).1
    constructor
    · rintro ⟨h1, h2, h3, h4, h5⟩
      exact ⟨⟨by have := h3 (by omega); omega, h2⟩, h4, h5⟩
    · rintro ⟨⟨h1, h2⟩, h4, h5⟩
      exact ⟨by omega, h2, fun _ => by omega, h4, h5⟩

set_option maxRecDepth 100000 in
set_option maxHeartbeats 1000000 in
theorem mayPairs_any (v : Value) (l : List Int) (lo : Int) (a b : Nat) (w : World) (hr : RdI w v l) (ha : w.cell? ⟨a, 0, none⟩ = some (.int .i64 lo)) (hb : w.cell? ⟨b, 0, none⟩ = some (.int .i64 1099511627776)) :
    Calls Tryz.prog 110 #[v, .func (.func 108) #[] #[.pointer (some ⟨a, 0, none⟩), .pointer (some ⟨b, 0, none⟩)]] w fun e w' => e = .returned (.bool (decide (PairsOk lo l))) ∧ Below w.heap.size w w' := by
  have HI : Hid (∀ n W, Below w.heap.size w W → Calls Tryz.prog 108 #[.int .i64 n, .pointer (some ⟨a, 0, none⟩), .pointer (some ⟨b, 0, none⟩)] W fun e w' => e = .returned (.bool (decide (lo ≤ n ∧ n ≤ 1099511627776))) ∧ w' = W) := fun n W h =>
    is_any n _ _ a b W ((h.cell (World.block_lt_of_cell? w ⟨a, 0, none⟩ ha)).trans ha) ((h.cell (World.block_lt_of_cell? w ⟨b, 0, none⟩ hb)).trans hb)
  have HS := hide' (fun n l2 h2 a2 b2 W p1 p2 => is_any n l2 h2 a2 b2 W p1 p2)
  have HW := hide' (fun p q W => within_any p q W)
  obtain ⟨ao, cap, rfl, -, -, -, -, hao⟩ := hr
  have HAO := hide' hao
  clear hao ha hb
  obtain ⟨R, hR⟩ : ∃ R, R = decide (PairsOk lo l) := ⟨_, rfl⟩
  rw [← hR]
  have HR := hide' hR
  clear hR
  by_cases he : l.length % 2 = 0
  · by_cases h128 : l.length ≤ 128
    · have hq1 : (((l.length : Int).tmod 2) != 0) = false := by rw [bne_eq_false_iff_eq, Int.tmod_eq_emod_of_nonneg (by omega)]; omega
      have hq : ¬ (128 < (l.length : Int)) := by omega
      go_enter Tryz.func110, Tryz.ntmps110
      go_wp2
      go_loopw [5, 6] (fun y i wr => ∃ k : Nat, y = .int .i64 (leastAt l k) ∧ i = .int .i64 k ∧ k ≤ l.length ∧ k % 2 = 0 ∧ Hid (∀ j, j < k → j % 2 = 0 → PairAt lo l j) ∧ Hid (Below w.heap.size w wr)) (fun _ i _ => l.length - (intOf i).toNat)
      case atStart => exact ⟨0, rfl, rfl, Nat.zero_le _, rfl, fun j hj => by omega, Below.refl _ _⟩
      case round =>
        obtain ⟨k, rfl, rfl, hk, hk2, hall, hbel⟩ := hrel
        by_cases hlt : k < l.length
        · rcases HAO.out with h0 | ⟨g, off, rfl, hc⟩
          · rw [h0] at hlt; simp at hlt
          have hlt1 : k + 1 < l.length := by omega
          have HC0 : Hid (∀ W, Below w.heap.size w W → W.cell? ⟨g, off + k, none⟩ = some (.int .i64 (l.getD k 0))) := fun W h => (h.cell (World.block_lt_of_cell? w ⟨g, off + k, none⟩ (hc k hlt))).trans (hc k hlt)
          have HC1 : Hid (∀ W, Below w.heap.size w W → W.cell? ⟨g, off + (k + 1), none⟩ = some (.int .i64 (l.getD (k + 1) 0))) := fun W h => (h.cell (World.block_lt_of_cell? w ⟨g, off + (k + 1), none⟩ (hc (k + 1) hlt1))).trans (hc (k + 1) hlt1)
          clear hc
          have HP := hide' (pairAt_least (lo := lo) hk2 hall.out)
          have HLS : Hid (leastAt l (k + 2) = l.getD k 0 + 1) := by
            unfold leastAt
            rw [if_neg (by omega)]
            exact rfl
          generalize leastAt l k = ls at *
          obtain ⟨y, hy⟩ : ∃ y, y = l.getD k 0 := ⟨_, rfl⟩
          obtain ⟨z, hz⟩ : ∃ z, z = l.getD (k + 1) 0 := ⟨_, rfl⟩
          rw [← hy] at HC0 HP HLS
          rw [← hz] at HC1 HP
          have HEY := hide' hy
          clear hy hz
          by_cases hy : ls ≤ y ∧ y ≤ 255
          · have HD1 := hide' (decide_eq_true hy)
            have HY := hide' hy
            by_cases hz : lo ≤ z ∧ z ≤ 1099511627776
            · have HD2 := hide' (decide_eq_true hz)
              have HZ := hide' hz
              have hy255 := hy.2
              have hy0 : 0 ≤ y := by rw [HEY.out]; exact (HP.out.2 ⟨HY.out, HZ.out⟩).1
              clear hy hz
              go_wp2_with fail
              refine (HW.out _ _ _).mono ?_
              rintro e W1 ⟨a2, b2, rfl, hc1, hc2, hb1⟩
              have HB1 := hide' (hbel.out.trans (hb1.mono hbel.out.size))
              have hg0 := HC0.out _ HB1.out
              have hg1 := HC1.out _ HB1.out
              clear hb1
              go_wp2_with fail
              refine (HS.out _ _ _ _ _ _ hc1 hc2).mono ?_
              rintro e W2 ⟨rfl, rfl⟩
              rw [HD1.out]
              go_wp2_with fail
              refine (HI.out _ _ HB1.out).mono ?_
              rintro e W3 ⟨rfl, rfl⟩
              rw [HD2.out]
              go_wp2
              go_roundw
              case rel =>
                refine ⟨k + 2, by rw [HLS.out], by go_num, by omega, by omega, fun j hj hj2 => ?_, HB1⟩
                by_cases e : j = k
                · rw [e]; exact HP.out.2 ⟨HY.out, HZ.out⟩
                · exact hall.out j (by omega) hj2
              case measure => simp [intOf]; omega
            · have HD2 := hide' (decide_eq_false hz)
              have HZ := hide' hz
              clear hy hz
              go_wp2_with fail
              refine (HW.out _ _ _).mono ?_
              rintro e W1 ⟨a2, b2, rfl, hc1, hc2, hb1⟩
              have HB1 := hide' (hbel.out.trans (hb1.mono hbel.out.size))
              have hg0 := HC0.out _ HB1.out
              have hg1 := HC1.out _ HB1.out
              clear hb1
              go_wp2_with fail
              refine (HS.out _ _ _ _ _ _ hc1 hc2).mono ?_
              rintro e W2 ⟨rfl, rfl⟩
              rw [HD1.out]
              go_wp2_with fail
              refine (HI.out _ _ HB1.out).mono ?_
              rintro e W3 ⟨rfl, rfl⟩
              rw [HD2.out]
              go_wp2
              go_ret
              exact ⟨ret_b (HR.out.trans (decide_eq_false fun h => HZ.out (HP.out.1 (h.2.2 k hlt hk2)).2)).symm, HB1.out⟩
          · have HD1 := hide' (decide_eq_false hy)
            have HY := hide' hy
            clear hy
            go_wp2_with fail
            refine (HW.out _ _ _).mono ?_
            rintro e W1 ⟨a2, b2, rfl, hc1, hc2, hb1⟩
            have HB1 := hide' (hbel.out.trans (hb1.mono hbel.out.size))
            have hg0 := HC0.out _ HB1.out
            have hg1 := HC1.out _ HB1.out
            clear hb1
            go_wp2_with fail
            refine (HS.out _ _ _ _ _ _ hc1 hc2).mono ?_
            rintro e W2 ⟨rfl, rfl⟩
            rw [HD1.out]
            go_wp2
            go_ret
            exact ⟨ret_b (HR.out.trans (decide_eq_false fun h => HY.out (HP.out.1 (h.2.2 k hlt hk2)).1)).symm, HB1.out⟩
        · go_wp2
          go_ret
          exact ⟨ret_b (HR.out.trans (decide_eq_true ⟨he, h128, fun j hj hj2 => hall.out j (by omega) hj2⟩)).symm, hbel.out⟩
    · have hq1 : (((l.length : Int).tmod 2) != 0) = false := by rw [bne_eq_false_iff_eq, Int.tmod_eq_emod_of_nonneg (by omega)]; omega
      have hq : 128 < (l.length : Int) := by omega
      have HD : Hid (decide (PairsOk lo l) = false) := decide_eq_false (fun h => h128 h.2.1)
      go_enter Tryz.func110, Tryz.ntmps110
      go_wp2
      go_ret
      exact ⟨ret_b (HR.out.trans HD.out).symm, Below.refl _ _⟩
  · have hq1 : (((l.length : Int).tmod 2) != 0) = true := by rw [bne_iff_ne, Int.tmod_eq_emod_of_nonneg (by omega)]; omega
    have HD : Hid (decide (PairsOk lo l) = false) := decide_eq_false (fun h => he h.1)
    go_enter Tryz.func110, Tryz.ntmps110
    go_wp2
    go_ret
    exact ⟨ret_b (HR.out.trans HD.out).symm, Below.refl _ _⟩

end Go.Proofs.YtanmjihiceibbaaGreat

/- Contracts of objs: mayNumbers, May. -/
namespace Go.Proofs.YtanmjihiceibbaaGreat
open Go.RowKit

theorem nums_one {kind : Int} (hk : kind = 0 ∨ kind = 1) (l : List Int) : (0 ≤ kind ∧ kind < 6 ∧ NumsOk kind l) ↔ l.length = 1 ∧ -1099511627776 ≤ l.getD 0 0 ∧ l.getD 0 0 ≤ 1099511627776 := by
  rw [numsOk_list (by omega) (by omega)]
  constructor
  · rintro ⟨_, _, _, h1, h2⟩
    exact ⟨h1 (by omega), h2 0 (by have := h1 (by omega); omega)⟩
  · rintro ⟨h1, h2⟩
    refine ⟨by omega, by omega, by omega, fun _ => h1, fun j hj => ?_⟩
    have e : j = 0 := by omega
    rw [e]
    exact h2

theorem nums_line {kind : Int} (hk : kind = 2 ∨ kind = 3) (l : List Int) : (0 ≤ kind ∧ kind < 6 ∧ NumsOk kind l) ↔ l.length ≤ 64 ∧ InBounds l := by
  rw [numsOk_list (by omega) (by omega)]
  constructor
  · rintro ⟨_, _, h1, _, h2⟩
    exact ⟨h1, h2⟩
  · rintro ⟨h1, h2⟩
    exact ⟨by omega, by omega, h1, fun h => by omega, h2⟩

theorem nums_store (l : List Int) : (0 ≤ (4 : Int) ∧ (4 : Int) < 6 ∧ NumsOk 4 l) ↔ PairsOk (-1099511627776) l := by
  unfold NumsOk
  rw [if_pos rfl]
  exact ⟨fun h => h.2.2, fun h => ⟨by decide, by decide, h⟩⟩

theorem nums_ledger (l : List Int) : (0 ≤ (5 : Int) ∧ (5 : Int) < 6 ∧ NumsOk 5 l) ↔ PairsOk 0 l := by
  unfold NumsOk
  rw [if_neg (by decide), if_pos rfl]
  exact ⟨fun h => h.2.2, fun h => ⟨by decide, by decide, h⟩⟩

set_option maxRecDepth 100000 in
set_option maxHeartbeats 1000000 in
theorem mayNumbers_any (kind : Int) (v : Value) (l : List Int) (w : World) (hr : RdI w v l) :
    Calls Tryz.prog 80 #[.int .i64 kind, v] w fun e w' => e = .returned (.bool (decide (0 ≤ kind ∧ kind < 6 ∧ NumsOk kind l))) ∧ Below w.heap.size w w' := by
  have HW := hide' (fun p q W => within_any p q W)
  have HRD : Hid (∀ W, Below w.heap.size w W → RdI W v l) := fun W h => hr.below h (Nat.le_refl _)
  obtain ⟨R, hR⟩ : ∃ R, R = decide (0 ≤ kind ∧ kind < 6 ∧ NumsOk kind l) := ⟨_, rfl⟩
  rw [← hR]
  have HR := hide' hR
  clear hR
  by_cases h01 : kind = 0 ∨ kind = 1
  · have HN := hide' (nums_one h01 l)
    have hx : ((kind == 0) = true) ∨ ((kind == 0) = false ∧ (kind == 1) = true) := by
      rcases h01 with rfl | rfl
      · exact .inl rfl
      · exact .inr ⟨rfl, rfl⟩
    have HS := hide' (fun n l2 h2 a2 b2 W p1 p2 => is_any n l2 h2 a2 b2 W p1 p2)
    obtain ⟨ao, cap, rfl, -, -, -, -, hao⟩ := hr
    have HAO := hide' hao
    clear hao h01 HRD
    by_cases hl : l.length = 1
    · rcases HAO.out with h0 | ⟨g, off, rfl, hc⟩
      · rw [h0] at hl; simp at hl
      have HC0 : Hid (∀ W, Below w.heap.size w W → W.cell? ⟨g, off, none⟩ = some (.int .i64 (l.getD 0 0))) := fun W h => (h.cell (World.block_lt_of_cell? w ⟨g, off, none⟩ (hc 0 (by omega)))).trans (hc 0 (by omega))
      clear hc HAO
      have HL := hide' hl
      rw [hl]
      clear hl
      obtain ⟨y, hy⟩ : ∃ y, y = l.getD 0 0 := ⟨_, rfl⟩
      rw [← hy] at HC0 HN
      clear hy
      rcases hx with hx | ⟨hx, hx'⟩
      all_goals
        go_enter Tryz.func80, Tryz.ntmps80
        go_wp2_with fail
        refine (HW.out _ _ _).mono ?_
        rintro e W1 ⟨a2, b2, rfl, hc1, hc2, hb1⟩
        have HB1 := hide' hb1
        have hg0 := HC0.out _ hb1
        clear hb1
        go_wp2_with fail
        refine (HS.out _ _ _ _ _ _ hc1 hc2).mono ?_
        rintro e W2 ⟨rfl, rfl⟩
        go_wp2
        go_ret
        refine ⟨ret_b ?_, HB1.out⟩
        rw [HR.out, ← Bool.decide_and]
        exact decide_eq_decide.2 ⟨fun h => HN.out.2 ⟨HL.out, h⟩, fun h => (HN.out.1 h).2⟩
    · have hq : ((l.length : Int) == 1) = false := beq_eq_false_iff_ne.2 (by omega)
      have HD : Hid (decide (0 ≤ kind ∧ kind < 6 ∧ NumsOk kind l) = false) := decide_eq_false (fun h => hl (HN.out.1 h).1)
      clear hl
      rcases hx with hx | ⟨hx, hx'⟩
      all_goals
        go_enter Tryz.func80, Tryz.ntmps80
        go_wp2_with fail
        refine (HW.out _ _ _).mono ?_
        rintro e W1 ⟨a2, b2, rfl, hc1, hc2, hb1⟩
        have HB1 := hide' hb1
        clear hb1
        go_wp2
        go_ret
        exact ⟨ret_b (HR.out.trans HD.out).symm, HB1.out⟩
  · have e0 : (kind == 0) = false := beq_eq_false_iff_ne.2 (by omega)
    have e1 : (kind == 1) = false := beq_eq_false_iff_ne.2 (by omega)
    by_cases h23 : kind = 2 ∨ kind = 3
    · have HN := hide' (nums_line h23 l)
      have hx : ((kind == 2) = true) ∨ ((kind == 2) = false ∧ (kind == 3) = true) := by
        rcases h23 with rfl | rfl
        · exact .inl rfl
        · exact .inr ⟨rfl, rfl⟩
      have HS := hide' (fun a2 b2 W p1 p2 p3 => mayLine_any v l a2 b2 W p1 p2 p3)
      clear h01 h23 hr
      rcases hx with hx | ⟨hx, hx'⟩
      all_goals
        go_enter Tryz.func80, Tryz.ntmps80
        go_wp2_with fail
        refine (HW.out _ _ _).mono ?_
        rintro e W1 ⟨a2, b2, rfl, hc1, hc2, hb1⟩
        have HB1 := hide' hb1
        clear hb1
        go_wp2_with fail
        refine (HS.out _ _ _ (HRD.out _ HB1.out) hc1 hc2).mono ?_
        rintro e W2 ⟨rfl, rfl⟩
        go_wp2
        go_ret
        refine ⟨ret_b ?_, HB1.out⟩
        rw [HR.out, ← Bool.decide_and]
        exact decide_eq_decide.2 HN.out.symm
    · have e2 : (kind == 2) = false := beq_eq_false_iff_ne.2 (by omega)
      have e3 : (kind == 3) = false := beq_eq_false_iff_ne.2 (by omega)
      have HS := hide' (fun lo a2 b2 W p1 p2 p3 => mayPairs_any v l lo a2 b2 W p1 p2 p3)
      clear h01 h23 hr
      by_cases h4 : kind = 4
      · have e4 : (kind == 4) = true := beq_iff_eq.2 h4
        have HN : Hid (PairsOk (-1099511627776) l ↔ (0 ≤ kind ∧ kind < 6 ∧ NumsOk kind l)) := by rw [h4]; exact (nums_store l).symm
        clear h4
        go_enter Tryz.func80, Tryz.ntmps80
        go_wp2_with fail
        refine (HW.out _ _ _).mono ?_
        rintro e W1 ⟨a2, b2, rfl, hc1, hc2, hb1⟩
        have HB1 := hide' hb1
        clear hb1
        go_wp2_with fail
        refine (HS.out _ _ _ _ (HRD.out _ HB1.out) hc1 hc2).mono ?_
        rintro e W2 ⟨rfl, hb2⟩
        have HB2 := hide' (HB1.out.trans (hb2.mono HB1.out.size))
        clear hb2
        go_wp2
        go_ret
        refine ⟨ret_b ?_, HB2.out⟩
        rw [HR.out]
        exact decide_eq_decide.2 HN.out
      · have e4 : (kind == 4) = false := beq_eq_false_iff_ne.2 h4
        by_cases h5 : kind = 5
        · have e5 : (kind == 5) = true := beq_iff_eq.2 h5
          have HN : Hid (PairsOk 0 l ↔ (0 ≤ kind ∧ kind < 6 ∧ NumsOk kind l)) := by rw [h5]; exact (nums_ledger l).symm
          clear h4 h5
          go_enter Tryz.func80, Tryz.ntmps80
          go_wp2_with fail
          refine (HW.out _ _ _).mono ?_
          rintro e W1 ⟨a1, b1, rfl, _, _, hb1⟩
          have HB1 := hide' hb1
          clear hb1
          go_wp2_with fail
          refine (HW.out _ _ _).mono ?_
          rintro e W2 ⟨a2, b2, rfl, hc1, hc2, hb2⟩
          have HB2 := hide' (HB1.out.trans (hb2.mono HB1.out.size))
          clear hb2
          go_wp2_with fail
          refine (HS.out _ _ _ _ (HRD.out _ HB2.out) hc1 hc2).mono ?_
          rintro e W3 ⟨rfl, hb3⟩
          have HB3 := hide' (HB2.out.trans (hb3.mono HB2.out.size))
          clear hb3
          go_wp2
          go_ret
          refine ⟨ret_b ?_, HB3.out⟩
          rw [HR.out]
          exact decide_eq_decide.2 HN.out
        · have e5 : (kind == 5) = false := beq_eq_false_iff_ne.2 h5
          have HD : Hid (decide (0 ≤ kind ∧ kind < 6 ∧ NumsOk kind l) = false) := decide_eq_false (fun h => by
            have n0 : kind ≠ 0 := beq_eq_false_iff_ne.1 e0
            have n1 : kind ≠ 1 := beq_eq_false_iff_ne.1 e1
            have n2 : kind ≠ 2 := beq_eq_false_iff_ne.1 e2
            have n3 : kind ≠ 3 := beq_eq_false_iff_ne.1 e3
            omega)
          clear h4 h5
          go_enter Tryz.func80, Tryz.ntmps80
          go_wp2_with fail
          refine (HW.out _ _ _).mono ?_
          rintro e W1 ⟨a1, b1, rfl, _, _, hb1⟩
          have HB1 := hide' hb1
          clear hb1
          go_wp2
          go_ret
          exact ⟨ret_b (HR.out.trans HD.out).symm, HB1.out⟩

end Go.Proofs.YtanmjihiceibbaaGreat

/- Contracts of objs: May, Fits, Same, own, seal. -/
namespace Go.Proofs.YtanmjihiceibbaaGreat
open Go.RowKit

theorem may_split (kind : Int) (l : List Int) (shut : Bool) (g : Int) : MayS ⟨kind, l, shut, g⟩ ↔ (shut = false → g = 0) ∧ (0 ≤ g ∧ g ≤ 2) ∧ (0 ≤ kind ∧ kind < 6 ∧ NumsOk kind l) :=
  ⟨fun h => ⟨h.2.2.1, ⟨h.1, h.2.1⟩, h.2.2.2.1, h.2.2.2.2.1, h.2.2.2.2.2⟩, fun h => ⟨h.2.1.1, h.2.1.2, h.1, h.2.2.1, h.2.2.2.1, h.2.2.2.2⟩⟩

set_option maxRecDepth 100000 in
set_option maxHeartbeats 1000000 in
theorem may_any (v : Value) (s : St) (w : World) (hs : StV w v s) :
    Calls Tryz.prog 47 #[v] w fun e w' => e = .returned (.bool (decide (MayS s))) ∧ Below w.heap.size w w' := by
  obtain ⟨vl, rfl, hr, -, -⟩ := hs
  obtain ⟨kind, l, shut, g⟩ := s
  simp only at hr ⊢
  have HW := hide' (fun p q W => within_any p q W)
  have HS := hide' (fun n l2 h2 a2 b2 W p1 p2 => is_any n l2 h2 a2 b2 W p1 p2)
  have HMN : Hid (∀ W, Below w.heap.size w W → Calls Tryz.prog 80 #[.int .i64 kind, vl] W fun e w' => e = .returned (.bool (decide (0 ≤ kind ∧ kind < 6 ∧ NumsOk kind l))) ∧ Below W.heap.size W w') := fun W h => mayNumbers_any kind vl l W (hr.below h (Nat.le_refl _))
  have HM := hide' (may_split kind l shut g)
  obtain ⟨R, hR⟩ : ∃ R, R = decide (MayS ⟨kind, l, shut, g⟩) := ⟨_, rfl⟩
  rw [← hR]
  have HR := hide' hR
  have HBA : Hid (∀ x, Below w.heap.size w (w.alloc x)) := fun x => (Below.refl _ _).alloc (Nat.le_refl _) x
  clear hR hr
  by_cases hbad : shut = false ∧ g ≠ 0
  · obtain ⟨rfl, hg⟩ := hbad
    have hq : (g != 0) = true := bne_iff_ne.2 hg
    have HD : Hid (decide (MayS ⟨kind, l, false, g⟩) = false) := decide_eq_false (fun h => hg ((HM.out.1 h).1 rfl))
    clear hg
    go_enter Tryz.func47, Tryz.ntmps47
    go_wp2
    go_ret
    exact ⟨ret_b (HR.out.trans HD.out).symm, HBA.out _⟩
  · have hx : ((g != 0) = false) ∨ ((g != 0) = true ∧ shut = true) := by
      by_cases h0 : g = 0
      · exact .inl (bne_eq_false_iff_eq.2 h0)
      · cases shut
        · exact absurd ⟨rfl, h0⟩ hbad
        · exact .inr ⟨bne_iff_ne.2 h0, rfl⟩
    have HB : Hid (shut = false → g = 0) := fun h => by
      by_cases h0 : g = 0
      · exact h0
      · exact absurd ⟨h, h0⟩ hbad
    clear hbad
    by_cases hin : 0 ≤ g ∧ g ≤ 2
    · have HN := hide' (decide_eq_true hin)
      have HI := hide' hin
      clear hin
      have HF : Hid (decide (0 ≤ kind ∧ kind < 6 ∧ NumsOk kind l) = R) := by
        rw [HR.out]
        exact decide_eq_decide.2 ⟨fun h => HM.out.2 ⟨HB.out, HI.out, h⟩, fun h => (HM.out.1 h).2.2⟩
      rcases hx with hx | ⟨hx, rfl⟩
      all_goals
        go_enter Tryz.func47, Tryz.ntmps47
        go_wp2_with fail
        refine (HW.out _ _ _).mono ?_
        rintro e W1 ⟨a1, b1, rfl, hc1, hc2, hb1⟩
        have hbx := (hb1.block w.heap.size (by simp)).trans (heap_alloc_new w _)
        have q0 := cell_of_row W1 w.heap.size 0 _ _ _ hbx
        have q1 := cell_of_row W1 w.heap.size 1 _ _ _ hbx
        have q3 := cell_of_row W1 w.heap.size 3 _ _ _ hbx
        have HB1 := hide' ((HBA.out _).trans (hb1.mono (HBA.out _).size))
        clear hb1 hbx
        go_wp2_with fail
        refine (HS.out _ _ _ _ _ _ hc1 hc2).mono ?_
        rintro e W2 ⟨rfl, rfl⟩
        rw [HN.out]
        go_wp2_with fail
        refine (HMN.out _ HB1.out).mono ?_
        rintro e W3 ⟨rfl, hb3⟩
        rw [HF.out]
        have HB3 := hide' (HB1.out.trans (hb3.mono HB1.out.size))
        clear hb3
        go_wp2
        go_ret
        exact ⟨rfl, HB3.out⟩
    · have HN := hide' (decide_eq_false hin)
      have HF : Hid (R = false) := HR.out.trans (decide_eq_false fun h => hin (HM.out.1 h).2.1)
      clear hin
      rcases hx with hx | ⟨hx, rfl⟩
      all_goals
        go_enter Tryz.func47, Tryz.ntmps47
        go_wp2_with fail
        refine (HW.out _ _ _).mono ?_
        rintro e W1 ⟨a1, b1, rfl, hc1, hc2, hb1⟩
        have hbx := (hb1.block w.heap.size (by simp)).trans (heap_alloc_new w _)
        have q3 := cell_of_row W1 w.heap.size 3 _ _ _ hbx
        have HB1 := hide' ((HBA.out _).trans (hb1.mono (HBA.out _).size))
        clear hb1 hbx
        go_wp2_with fail
        refine (HS.out _ _ _ _ _ _ hc1 hc2).mono ?_
        rintro e W2 ⟨rfl, rfl⟩
        rw [HN.out]
        go_wp2
        go_ret
        exact ⟨ret_b HF.out.symm, HB1.out⟩

end Go.Proofs.YtanmjihiceibbaaGreat

/- Contracts of objs: Fits, Same, Start, own, seal. -/
namespace Go.Proofs.YtanmjihiceibbaaGreat
open Go.RowKit

set_option maxRecDepth 100000 in
set_option maxHeartbeats 1000000 in
theorem fits_any (o : Opn) (w : World) :
    Calls Tryz.prog 64 #[opV o] w fun e w' => e = .returned (.bool (decide (FitsO o))) ∧ Below w.heap.size w w' := by
  obtain ⟨code, a, b⟩ := o
  have HW := hide' (fun p q W => within_any p q W)
  have HS := hide' (fun n l2 h2 a2 b2 W p1 p2 => is_any n l2 h2 a2 b2 W p1 p2)
  have HM : Hid (FitsO ⟨code, a, b⟩ ↔ (0 ≤ code ∧ code ≤ 10) ∧ (-1099511627776 ≤ a ∧ a ≤ 1099511627776) ∧ (-1099511627776 ≤ b ∧ b ≤ 1099511627776)) :=
    ⟨fun h => ⟨⟨h.1, h.2.1⟩, ⟨h.2.2.1, h.2.2.2.1⟩, h.2.2.2.2⟩, fun h => ⟨h.1.1, h.1.2, h.2.1.1, h.2.1.2, h.2.2⟩⟩
  obtain ⟨R, hR⟩ : ∃ R, R = decide (FitsO ⟨code, a, b⟩) := ⟨_, rfl⟩
  rw [← hR]
  have HR := hide' hR
  have HBA : Hid (∀ x, Below w.heap.size w (w.alloc x)) := fun x => (Below.refl _ _).alloc (Nat.le_refl _) x
  clear hR
  have go : ∀ t1 t2 t3, Hid (decide (0 ≤ code ∧ code ≤ 10) = t1) → Hid (decide (-1099511627776 ≤ a ∧ a ≤ 1099511627776) = t2) → Hid (decide (-1099511627776 ≤ b ∧ b ≤ 1099511627776) = t3) → Hid ((t1 && t2 && t3) = R) →
      Calls Tryz.prog 64 #[.agg #[.int .i64 code, .int .i64 a, .int .i64 b]] w fun e w' => e = .returned (.bool R) ∧ Below w.heap.size w w' := by
    intro t1 t2 t3 H1 H2 H3 HF
    go_enter Tryz.func64, Tryz.ntmps64
    go_wp2_with fail
    refine (HW.out _ _ _).mono ?_
    rintro e W1 ⟨a1, b1, rfl, hc1, hc2, hb1⟩
    have HB1 := hide' ((HBA.out _).trans (hb1.mono (HBA.out _).size))
    have HX1 := hide' ((hb1.block w.heap.size (by simp)).trans (heap_alloc_new w _))
    have HC1 := hide' hc1
    have HC2 := hide' hc2
    clear hb1 hc1 hc2
    go_wp2_with fail
    refine (HW.out _ _ _).mono ?_
    rintro e W2 ⟨a2, b2, rfl, hd1, hd2, hb2⟩
    have hx := (hb2.block w.heap.size (Array.getElem?_eq_some_iff.1 HX1.out).1).trans HX1.out
    have q0 := cell_of_row W2 w.heap.size 0 _ _ _ hx
    have q1 := cell_of_row W2 w.heap.size 1 _ _ _ hx
    have q2 := cell_of_row W2 w.heap.size 2 _ _ _ hx
    have hc1 := (hb2.cell (World.block_lt_of_cell? W1 ⟨a1, 0, none⟩ HC1.out)).trans HC1.out
    have hc2 := (hb2.cell (World.block_lt_of_cell? W1 ⟨b1, 0, none⟩ HC2.out)).trans HC2.out
    have HB2 := hide' (HB1.out.trans (hb2.mono HB1.out.size))
    have HC1' := hide' hc1
    have HC2' := hide' hc2
    have HD1' := hide' hd1
    have HD2' := hide' hd2
    clear hb2 hx HX1 HC1 HC2 hc1 hc2 hd1 hd2
    go_wp2_with fail
    refine (HS.out _ _ _ _ _ _ HC1'.out HC2'.out).mono ?_
    rintro e W3 ⟨rfl, rfl⟩
    rw [H1.out]
    cases t1
    · go_wp2
      go_ret
      exact ⟨ret_b (by rw [← HF.out]; rfl), HB2.out⟩
    · go_wp2_with fail
      refine (HS.out _ _ _ _ _ _ HD1'.out HD2'.out).mono ?_
      rintro e W3 ⟨rfl, rfl⟩
      rw [H2.out]
      cases t2
      · go_wp2
        go_ret
        exact ⟨ret_b (by rw [← HF.out]; rfl), HB2.out⟩
      · go_wp2_with fail
        refine (HS.out _ _ _ _ _ _ HD1'.out HD2'.out).mono ?_
        rintro e W3 ⟨rfl, rfl⟩
        rw [H3.out]
        go_wp2
        go_ret
        exact ⟨ret_b (by rw [← HF.out]; rfl), HB2.out⟩
  refine go _ _ _ rfl rfl rfl (hide' ?_)
  rw [HR.out, ← Bool.decide_and, ← Bool.decide_and]
  exact decide_eq_decide.2 ⟨fun h => HM.out.2 ⟨h.1.1, h.1.2, h.2⟩, fun h => ⟨⟨(HM.out.1 h).1, (HM.out.1 h).2.1⟩, (HM.out.1 h).2.2⟩⟩

end Go.Proofs.YtanmjihiceibbaaGreat

/- Contracts of objs: Start, own, seal. -/
namespace Go.Proofs.YtanmjihiceibbaaGreat
open Go.RowKit

set_option maxRecDepth 100000 in
set_option maxHeartbeats 2000000 in
theorem ownS_any (v : Value) (s : St) (w : World) (hs : StV w v s) (hlim : s.L.length ≤ 1000000) :
    Calls Tryz.prog 65 #[v] w fun e w' => ∃ vl', e = .returned (.agg #[.int .i64 s.kind, vl', .bool s.shut, .int .i64 s.eng]) ∧ OwnI w' w.heap.size vl' s.L ∧ Below w.heap.size w w' := by
  obtain ⟨vl, rfl, hr, -, -⟩ := hs
  obtain ⟨kind, l, shut, g⟩ := s
  simp only at hr hlim ⊢
  have HC : Hid (∀ W, Below w.heap.size w W → Calls Tryz.prog 33 #[vl] W fun e w' => ∃ v', e = .returned v' ∧ OwnI w' W.heap.size v' l ∧ Below W.heap.size W w') := fun W h => cloneI_any vl l W (hr.below h (Nat.le_refl _)) hlim
  have HBA : Hid (∀ x y, Below w.heap.size w ((w.alloc x).alloc y)) := fun x y => ((Below.refl _ _).alloc (Nat.le_refl _) x).alloc (by simp) y
  clear hr hlim
  go_enter Tryz.func65, Tryz.ntmps65
  go_wp2_with fail
  refine (HC.out _ (HBA.out _ _)).mono ?_
  rintro e W1 ⟨v1, rfl, ho, hb1⟩
  have hbx : Box2 W1 w.heap.size _ _ := (Box2.made w _ _).below hb1 (by simp)
  have q0 := (hbx.s 0).1
  have q1 := (hbx.s 1).1
  have q2 := (hbx.s 2).1
  have q3 := (hbx.s 3).1
  have f1 := (hbx.s 1).2
  have r0 := (hbx.r 0).1
  have r1 := (hbx.r 1).1
  have r2 := (hbx.r 2).1
  have r3 := (hbx.r 3).1
  have s0 := (hbx.r 0).2
  have s1 := (hbx.r 1).2
  have s2 := (hbx.r 2).2
  have s3 := (hbx.r 3).2
  have HB1 := hide' ((HBA.out _ _).trans (hb1.mono (HBA.out _ _).size))
  have ho2 : OwnI W1 (w.heap.size + 1 + 1) v1 l := by
    have e : ∀ x y, ((w.alloc x).alloc y).heap.size = w.heap.size + 1 + 1 := fun x y => by simp
    rwa [e] at ho
  have HO := hide' ho2
  obtain ⟨ao, cap, rfl⟩ := ho2.shape
  clear hb1 hbx ho ho2
  go_wp2
  refine bodyPost_ret (v := .agg #[.int .i64 kind, .slice ao l.length cap, .bool shut, .int .i64 g]) (by simp [results, Tryz.results65, go_sem, r0, r1, r2, r3]) rfl ?_
  exact ⟨_, rfl, (HO.out.five w.heap.size (w.heap.size + 1) (by omega) (by omega) _ _ _ _ _).mono (by omega), belowFive HB1.out w.heap.size (w.heap.size + 1) (Nat.le_refl _) (by omega) _ _ _ _ _⟩

end Go.Proofs.YtanmjihiceibbaaGreat

/- States, operations, lists of operations and of numbers that came in. -/
namespace Go.Proofs.YtanmjihiceibbaaGreat
open Go.RowKit Go.ChangeShapes

set_option maxRecDepth 100000 in
theorem cells_int : Tryz.prog.cellsOf 3 = 1 := by kernel_rfl

set_option maxRecDepth 100000 in
theorem cells_ints : Tryz.prog.cellsOf 24 = 1 := by kernel_rfl

set_option maxRecDepth 100000 in
theorem cells_bool : Tryz.prog.cellsOf 4 = 1 := by kernel_rfl

set_option maxRecDepth 100000 in
theorem cells_state : Tryz.prog.cellsOf 26 = 4 := by kernel_rfl

set_option maxRecDepth 100000 in
theorem cells_op : Tryz.prog.cellsOf 40 = 3 := by kernel_rfl

set_option maxRecDepth 100000 in
theorem i64_of_wf {n : Int} (h : (Lit.int .i64 n).wf = true) : I64 n := by
  simpa [I64, Lit.wf, IntKind.min, IntKind.max, IntKind.signed, IntKind.bits] using h

section
variable {H : Type} {enc : TypeId × Value → H} {w : World} {base fuel : Nat} {held : Bool}

set_option maxRecDepth 100000 in
/-- Numbers that came in. -/
theorem open_rdI {cs : List Value} {x : DataW H × List MemPlace} (h : DataW.trod enc Tryz.prog w base (fun _ => true) held fuel 24 cs = some x) : ∃ v l, cs = [v] ∧ RdI w v l := by
  rcases open_ints Tryz.underlying24 Tryz.underlying3 (by kernel_rfl) h with ⟨hcs, _⟩ | ⟨y, l, c, zs, hcs, _, hl, hm, hz, _, hcell, hwz⟩
  · exact ⟨_, [], hcs, RdI.nil _⟩
  · exact ⟨_, _, hcs, RdI.ofRow hl hm (by simpa using hz) hcell hwz⟩

set_option maxRecDepth 100000 in
/-- The cells of a state. -/
theorem open_state_cells {cs : List Value} {x : DataW H × List MemPlace} (h : DataW.trod enc Tryz.prog w base (fun _ => true) held fuel 26 cs = some x) :
    ∃ (s : St) (vl : Value), cs = [.int .i64 s.kind, vl, .bool s.shut, .int .i64 s.eng] ∧ RdI w vl s.L ∧ I64 s.kind ∧ I64 s.eng := by
  obtain ⟨xs, n, _, _, hl, hxl, hf⟩ := DataW.trod_struct Tryz.underlying26 h
  rw [cells_state] at hl
  match xs, hxl, cs, hl with
  | [y0, y1, y2, y3], _, [c0, c1, c2, c3], _ =>
    have g0 := hf 0 _ rfl
    have g1 := hf 1 _ rfl
    have g2 := hf 2 _ rfl
    have g3 := hf 3 _ rfl
    simp [cells_int, cells_ints, cells_bool] at g0 g1 g2 g3
    obtain ⟨k, hk, _, wk⟩ := DataW.trod_int Tryz.underlying3 g0
    obtain ⟨vl, l, hv, hr⟩ := open_rdI g1
    obtain ⟨b, hb, _⟩ := DataW.trod_bool Tryz.underlying4 g2
    obtain ⟨e, he, _, we⟩ := DataW.trod_int Tryz.underlying3 g3
    simp only [List.cons.injEq, and_true] at hk hv hb he
    subst hk hv hb he
    exact ⟨⟨k, l, b, e⟩, _, rfl, hr, i64_of_wf wk, i64_of_wf we⟩

set_option maxRecDepth 100000 in
/-- A state that came in. -/
theorem open_state {r : Reach} {b0 : Nat} {v : Value} {d : DataW H} {p : List MemPlace} (hval : Value.okWide Tryz.prog w r b0 26 v) (h : DataW.Trod enc Tryz.prog w base (fun _ => true) held 26 v d p) : ∃ s, StV w v s := by
  obtain ⟨cs, rfl, hsz⟩ := Go.WideShapes.okWide_struct Tryz.underlying26 hval
  obtain ⟨fuel, hf⟩ := h
  obtain ⟨s, vl, hcs, hr, hk, he⟩ := open_state_cells hf
  refine ⟨s, vl, ?_, hr, hk, he⟩
  simp [Value.cells] at hcs
  exact congrArg Value.agg (Array.ext' hcs)

set_option maxRecDepth 100000 in
/-- The cells of an operation. -/
theorem open_op_cells {cs : List Value} {x : DataW H × List MemPlace} (h : DataW.trod enc Tryz.prog w base (fun _ => true) held fuel 40 cs = some x) :
    ∃ (o : Opn), cs = [.int .i64 o.code, .int .i64 o.a, .int .i64 o.b] ∧ OpOk o := by
  obtain ⟨xs, n, _, _, hl, hxl, hf⟩ := DataW.trod_struct Tryz.underlying40 h
  rw [cells_op] at hl
  match xs, hxl, cs, hl with
  | [y0, y1, y2], _, [c0, c1, c2], _ =>
    have g0 := hf 0 _ rfl
    have g1 := hf 1 _ rfl
    have g2 := hf 2 _ rfl
    simp [cells_int] at g0 g1 g2
    obtain ⟨k, hk, _, wk⟩ := DataW.trod_int Tryz.underlying3 g0
    obtain ⟨a, ha, _, wa⟩ := DataW.trod_int Tryz.underlying3 g1
    obtain ⟨b, hb, _, wb⟩ := DataW.trod_int Tryz.underlying3 g2
    simp only [List.cons.injEq, and_true] at hk ha hb
    subst hk ha hb
    exact ⟨⟨k, a, b⟩, rfl, i64_of_wf wk, i64_of_wf wa, i64_of_wf wb⟩

set_option maxRecDepth 100000 in
/-- An operation that came in. -/
theorem open_op {r : Reach} {b0 : Nat} {v : Value} {d : DataW H} {p : List MemPlace} (hval : Value.okWide Tryz.prog w r b0 40 v) (h : DataW.Trod enc Tryz.prog w base (fun _ => true) held 40 v d p) : ∃ o, v = opV o ∧ OpOk o := by
  obtain ⟨cs, rfl, hsz⟩ := Go.WideShapes.okWide_struct Tryz.underlying40 hval
  obtain ⟨fuel, hf⟩ := h
  obtain ⟨o, hcs, hok⟩ := open_op_cells hf
  refine ⟨o, ?_, hok⟩
  simp [Value.cells] at hcs
  exact congrArg Value.agg (Array.ext' hcs)

end

/-- The slice value v reads, in the world w, as the operations l. -/
def RdO (w : World) (v : Value) (l : List Opn) : Prop :=
  ∃ ao cap, v = .slice ao l.length cap ∧ l.length ≤ cap ∧ cap ≤ maxLen ∧ (ao = none → cap = 0) ∧ (∀ o ∈ l, OpOk o) ∧
    (l = [] ∨ ∃ b off, ao = some ⟨b, off, none⟩ ∧ ∀ j, j < l.length → w.cell? ⟨b, off + j * 3, none⟩ = some (.int .i64 (l.getD j ⟨0, 0, 0⟩).code) ∧ w.cell? ⟨b, off + j * 3 + 1, none⟩ = some (.int .i64 (l.getD j ⟨0, 0, 0⟩).a) ∧ w.cell? ⟨b, off + j * 3 + 2, none⟩ = some (.int .i64 (l.getD j ⟨0, 0, 0⟩).b))

set_option maxRecDepth 100000 in
theorem RdO.below {w w' : World} {v : Value} {l : List Opn} (h : RdO w v l) {B : Nat} (hb : Below B w w') (hB : w.heap.size ≤ B) : RdO w' v l := by
  obtain ⟨ao, cap, h1, h2, h3, hn, hw, h4⟩ := h
  refine ⟨ao, cap, h1, h2, h3, hn, hw, ?_⟩
  rcases h4 with h4 | ⟨b, off, h5, h6⟩
  · exact .inl h4
  · refine .inr ⟨b, off, h5, fun j hj => ?_⟩
    obtain ⟨c0, c1, c2⟩ := h6 j hj
    have hlt : b < w.heap.size := World.block_lt_of_cell? w ⟨b, off + j * 3, none⟩ c0
    refine ⟨?_, ?_, ?_⟩
    · rw [hb.cell (p := ⟨b, off + j * 3, none⟩) (by exact Nat.lt_of_lt_of_le hlt hB)]; exact c0
    · rw [hb.cell (p := ⟨b, off + j * 3 + 1, none⟩) (by exact Nat.lt_of_lt_of_le hlt hB)]; exact c1
    · rw [hb.cell (p := ⟨b, off + j * 3 + 2, none⟩) (by exact Nat.lt_of_lt_of_le hlt hB)]; exact c2

set_option maxRecDepth 100000 in
theorem choose_ops {m : Nat} {p : Nat → Opn → Prop} (h : ∀ i, i < m → ∃ o, p i o) : ∃ L : List Opn, L.length = m ∧ ∀ i, i < m → p i (L.getD i ⟨0, 0, 0⟩) := by
  induction m with
  | zero => exact ⟨[], rfl, fun i hi => by omega⟩
  | succ m ih =>
    obtain ⟨L, hL, hp⟩ := ih (fun i hi => h i (by omega))
    obtain ⟨o, ho⟩ := h m (by omega)
    refine ⟨L ++ [o], by simp [hL], fun i hi => ?_⟩
    by_cases e : i < m
    · have e2 : (L ++ [o]).getD i ⟨0, 0, 0⟩ = L.getD i ⟨0, 0, 0⟩ := by simp [List.getD, List.getElem?_append_left (show i < L.length by omega)]
      rw [e2]
      exact hp i e
    · have e3 : i = L.length := by omega
      subst e3
      have e2 : (L ++ [o]).getD L.length ⟨0, 0, 0⟩ = o := by simp [List.getD]
      rw [e2, hL]
      exact ho

end Go.Proofs.YtanmjihiceibbaaGreat

/- Contracts of objs: act, Step. -/
namespace Go.Proofs.YtanmjihiceibbaaGreat
open Go.RowKit

/-- The numbers of a state that may be are numbers of 64 bits. -/
theorem may_i64 {s : St} (h : MayS s) : ∀ x ∈ s.L, I64 x := by
  have h0 := h.2.2.2.1
  have h6 := h.2.2.2.2.1
  have hn := h.2.2.2.2.2
  by_cases h4 : s.kind = 4
  · rw [h4, numsOk_4] at hn
    exact pairs_i64 (by decide) (by decide) hn.2
  · by_cases h5 : s.kind = 5
    · rw [h5, numsOk_5] at hn
      exact pairs_i64 (by decide) (by decide) hn.2
    · have hb := (inBounds_iff _).1 ((numsOk_list h4 h5).1 hn).2.2
      intro x hx
      have := hb x hx
      exact i64_small (by omega) (by omega)

theorem may_len {s : St} (h : MayS s) : s.L.length ≤ 128 := by
  have h0 := h.2.2.2.1
  have h6 := h.2.2.2.2.1
  have hn := h.2.2.2.2.2
  by_cases h4 : s.kind = 4
  · rw [h4, numsOk_4] at hn
    exact hn.1
  · by_cases h5 : s.kind = 5
    · rw [h5, numsOk_5] at hn
      exact hn.1
    · have := ((numsOk_list h4 h5).1 hn).1
      omega

theorem stepO_seal {s : St} (h : MayS s) (hs : s.shut = false) (o : Opn) (hc : o.code = 10) : stepO s o = (⟨s.kind, s.L, true, if 0 ≤ o.a ∧ o.a ≤ 2 then o.a else s.eng⟩, 0) := by
  unfold stepO
  rw [if_neg (fun e => e h), if_neg (by simp [hs]), if_pos hc]

theorem stepO_open {s : St} (h : MayS s) (hs : s.shut = false) (o : Opn) (hc : o.code ≠ 10) : stepO s o = if s.kind ≤ 1 then oneS s o else if s.kind ≤ 3 then listS s o else if s.kind = 4 then storeO s o else ledgerS s o := by
  unfold stepO
  rw [if_neg (fun e => e h), if_neg (by simp [hs]), if_neg hc]

theorem storeO_kind (s : St) (o : Opn) : (storeO s o).1.kind = s.kind ∧ (storeO s o).1.shut = s.shut ∧ (storeO s o).1.eng = s.eng := by
  rw [storeO_state]
  exact store_kind s o

/-- An answer that leaves kind, seal and engine. -/
theorem split_r {r : St × Int} {k g : Int} {s : Bool} (h : r.1.kind = k ∧ r.1.shut = s ∧ r.1.eng = g) : r = (⟨k, r.1.L, s, g⟩, r.2) := by
  obtain ⟨⟨k1, l1, s1, g1⟩, n1⟩ := r
  obtain ⟨h1, h2, h3⟩ := h
  simp only at h1 h2 h3
  rw [h1, h2, h3]

theorem act_any (s : St) (v : Value) (o : Opn) (B : Nat) (w : World) (ho : OwnI w B v s.L) (hB : B ≤ w.heap.size) (hm : MayS s) :
    Calls Tryz.prog 66 #[.agg #[.int .i64 s.kind, v, .bool s.shut, .int .i64 s.eng], opV o] w fun e w' => Did B w v (stepO s o) e w' := by
  obtain ⟨kind, l, shut, g⟩ := s
  cases shut with
  | true =>
    rw [stepO_shut hm rfl]
    exact actShut_any kind g l v o B w ho
  | false =>
    have h0 : 0 ≤ kind := hm.2.2.2.1
    have h6 : kind < 6 := hm.2.2.2.2.1
    have hn := hm.2.2.2.2.2
    obtain ⟨code, a, b⟩ := o
    by_cases hc : code = 10
    · rw [stepO_seal hm rfl _ hc]
      subst hc
      exact actSeal_any kind g a b l v B w ho
    · rw [stepO_open hm rfl _ hc]
      by_cases k1 : kind ≤ 1
      · rw [if_pos k1]
        obtain ⟨h1, h2, h3⟩ := nums1 hm k1
        exact actOne_any kind g (by omega) l v ⟨code, a, b⟩ hc B w ho h1 h2 h3
      · rw [if_neg k1]
        by_cases k3 : kind ≤ 3
        · rw [if_pos k3, split_r (list_kind ⟨kind, l, false, g⟩ ⟨code, a, b⟩)]
          exact actLine_any kind g (by omega) l _ _ v code a b hc B w ho (fun W h1 h2 => line_any kind (by omega) v l ⟨code, a, b⟩ false g B W h1 h2 (may_i64 hm) (nums2 hm k3)) hB
        · rw [if_neg k3]
          by_cases k4 : kind = 4
          · rw [if_pos k4, split_r (storeO_kind ⟨kind, l, false, g⟩ ⟨code, a, b⟩)]
            subst k4
            have hn' := (numsOk_4 l).1 hn
            exact actStore_any 4 g rfl l _ _ v code a b hc B w ho (fun W h1 h2 => storeO_any v l ⟨code, a, b⟩ false g B W h1 h2 hn'.2 hn'.1) hB
          · rw [if_neg k4, split_r (ledger_kind ⟨kind, l, false, g⟩ ⟨code, a, b⟩)]
            have k5 : kind = 5 := by omega
            subst k5
            have hn' := (numsOk_5 l).1 hn
            exact actLedger_any 5 g rfl l _ _ v code a b hc B w ho (fun W h1 h2 => ledgerO_any v l ⟨code, a, b⟩ false g B W h1 h2 hn'.2 hn'.1) hB

set_option maxRecDepth 100000 in
set_option maxHeartbeats 2000000 in
theorem step_any (v : Value) (s : St) (o : Opn) (w : World) (hs : StV w v s) (hlim : s.L.length ≤ 1000000) :
    Calls Tryz.prog 36 #[v, opV o] w fun e w' => Stepped w (lval v) s.L (stepO s o) e w' := by
  obtain ⟨vl, rfl, hr, hki, hei⟩ := hs
  rw [lval_agg]
  obtain ⟨kind, l, shut, g⟩ := s
  simp only at hr hki hei hlim ⊢
  have HI := hide' hr.i64
  have HOWN : Hid (∀ W, Below w.heap.size w W → Calls Tryz.prog 65 #[.agg #[.int .i64 kind, vl, .bool shut, .int .i64 g]] W fun e w' => ∃ vl', e = .returned (.agg #[.int .i64 kind, vl', .bool shut, .int .i64 g]) ∧ OwnI w' W.heap.size vl' l ∧ Below W.heap.size W w') := fun W h => ownS_any _ ⟨kind, l, shut, g⟩ W ⟨vl, rfl, hr.below h (Nat.le_refl _), hki, hei⟩ hlim
  have HMAY : Hid (∀ v1 W, RdI W v1 l → Calls Tryz.prog 47 #[.agg #[.int .i64 kind, v1, .bool shut, .int .i64 g]] W fun e w' => e = .returned (.bool (decide (MayS ⟨kind, l, shut, g⟩))) ∧ Below W.heap.size W w') := fun v1 W h => may_any _ ⟨kind, l, shut, g⟩ W ⟨v1, rfl, h, hki, hei⟩
  have HB3 : Hid (∀ x y z, Below w.heap.size w (((w.alloc x).alloc y).alloc z)) := fun x y z => (three_boxes w x y z).1
  have HZ3 : Hid (∀ x y z, (((w.alloc x).alloc y).alloc z).heap.size = w.heap.size + 1 + 1 + 1) := fun x y z => size3 w x y z
  have HKI := hide' hki
  have HEI := hide' hei
  obtain ⟨code, a, b⟩ := o
  clear hr hki hei hlim
  show Calls Tryz.prog _ #[_, .agg #[.int .i64 code, .int .i64 a, .int .i64 b]] w _
  by_cases hm : MayS ⟨kind, l, shut, g⟩
  · have HMT := hide' (decide_eq_true hm)
    have HACT : Hid (∀ v1 B W, OwnI W B v1 l → B ≤ W.heap.size → Calls Tryz.prog 66 #[.agg #[.int .i64 kind, v1, .bool shut, .int .i64 g], .agg #[.int .i64 code, .int .i64 a, .int .i64 b]] W fun e w' => Did B W v1 (stepO ⟨kind, l, shut, g⟩ ⟨code, a, b⟩) e w') := fun v1 B W h1 h2 => act_any ⟨kind, l, shut, g⟩ v1 ⟨code, a, b⟩ B W h1 h2 hm
    have hm' := stepO_may hm ⟨code, a, b⟩
    have HI' := hide' (may_i64 hm')
    have HKI' : Hid (I64 (stepO ⟨kind, l, shut, g⟩ ⟨code, a, b⟩).1.kind) := i64_small (by have := hm'.2.2.2.1; omega) (by have := hm'.2.2.2.2.1; omega)
    have HEI' : Hid (I64 (stepO ⟨kind, l, shut, g⟩ ⟨code, a, b⟩).1.eng) := i64_small (by have := hm'.1; omega) (by have := hm'.2.1; omega)
    obtain ⟨⟨⟨k', L', s', g'⟩, n'⟩, hr'⟩ : ∃ r, r = stepO ⟨kind, l, shut, g⟩ ⟨code, a, b⟩ := ⟨_, rfl⟩
    rw [← hr'] at HACT HI' HKI' HEI' ⊢
    clear hm hm' hr'
    go_enter Tryz.func36, Tryz.ntmps36
    go_wp2_with fail
    refine (HOWN.out _ (HB3.out _ _ _)).mono ?_
    rintro e W1 ⟨v1, rfl, ho1, hb1⟩
    rw [HZ3.out] at ho1
    have HX1 := hide' ((Boxes.made w _ _ _).below hb1 (by simp))
    have HB1 := hide' ((HB3.out _ _ _).trans (hb1.mono (HB3.out _ _ _).size))
    have HO1 := hide' ho1
    have hs1 := hb1.size
    rw [HZ3.out] at hs1
    obtain ⟨ao, cap, rfl⟩ := ho1.shape
    clear hb1 ho1
    go_wp2_with fail
    refine (HMAY.out _ _ ((HO1.out.alloc _).rd HI.out)).mono ?_
    rintro e W2 ⟨rfl, hb2⟩
    rw [HMT.out]
    have HB2 := hide' ((HB1.out.alloc HB1.out.size _).trans (hb2.mono (by have := HB1.out.size; simp; omega)))
    have HO2 := hide' ((HO1.out.alloc _).below hb2 (Nat.le_refl _))
    have hs2 := hb2.size
    have hx := (HX1.out.below ((Below.refl W1.heap.size W1).alloc (Nat.le_refl _) _) (by omega)).below hb2 (by simp; omega)
    have hbx := (hb2.block W1.heap.size (by simp)).trans (heap_alloc_new W1 _)
    have HX2 := hide' hx
    obtain ⟨p0, -⟩ := hx.o 0
    obtain ⟨p1, -⟩ := hx.o 1
    obtain ⟨p2, -⟩ := hx.o 2
    have q0 := cell_of_row W2 W1.heap.size 0 _ _ _ hbx
    have q1 := cell_of_row W2 W1.heap.size 1 _ _ _ hbx
    have q2 := cell_of_row W2 W1.heap.size 2 _ _ _ hbx
    have q3 := cell_of_row W2 W1.heap.size 3 _ _ _ hbx
    have hB2 : w.heap.size + 1 + 1 + 1 ≤ W2.heap.size := by simp at hs2; omega
    clear hb2 hx hbx HX1
    go_wp2_with fail
    refine (HACT.out _ _ _ HO2.out hB2).mono ?_
    rintro e W3 ⟨v3, rfl, ho3, hm3⟩
    have hb3 := hm3.below HO2.out hB2
    have hx := HX2.out.below hb3 (Nat.le_refl _)
    obtain ⟨r0, t0⟩ := hx.r 0
    obtain ⟨r1, t1⟩ := hx.r 1
    obtain ⟨r2, t2⟩ := hx.r 2
    obtain ⟨r3, t3⟩ := hx.r 3
    have HB3' := hide' (HB2.out.trans (hb3.mono (by omega)))
    have HO3 := hide' ho3
    obtain ⟨ao3, cap3, rfl⟩ := ho3.shape
    clear hb3 hm3 hx ho3
    go_wp2
    refine bodyPost_ret (v := .tuple #[.agg #[.int .i64 k', .slice ao3 L'.length cap3, .bool s', .int .i64 g'], .int .i64 n']) (by simp [results, Tryz.results36, go_sem, r0, r1, r2, r3]) rfl ?_
    refine Stepped.fresh ((HO3.out.four (w.heap.size + 1 + 1) (by omega) _ _ _ _).rd HI'.out) HKI'.out HEI'.out n' (fun b hb => ?_) (belowFour HB3'.out (w.heap.size + 1 + 1) (by omega) _ _ _ _)
    have := HO3.out.fresh b hb
    omega
  · have HMT := hide' (decide_eq_false hm)
    have HR := hide' (stepO_not hm ⟨code, a, b⟩)
    rw [HR.out]
    clear hm
    go_enter Tryz.func36, Tryz.ntmps36
    go_wp2_with fail
    refine (HOWN.out _ (HB3.out _ _ _)).mono ?_
    rintro e W1 ⟨v1, rfl, ho1, hb1⟩
    rw [HZ3.out] at ho1
    have HX1 := hide' ((Boxes.made w _ _ _).below hb1 (by simp))
    have HB1 := hide' ((HB3.out _ _ _).trans (hb1.mono (HB3.out _ _ _).size))
    have HO1 := hide' ho1
    have hs1 := hb1.size
    rw [HZ3.out] at hs1
    obtain ⟨ao, cap, rfl⟩ := ho1.shape
    clear hb1 ho1
    go_wp2_with fail
    refine (HMAY.out _ _ ((HO1.out.alloc _).rd HI.out)).mono ?_
    rintro e W2 ⟨rfl, hb2⟩
    rw [HMT.out]
    have HB2 := hide' ((HB1.out.alloc HB1.out.size _).trans (hb2.mono (by have := HB1.out.size; simp; omega)))
    have HO2 := hide' ((HO1.out.alloc _).below hb2 (Nat.le_refl _))
    have hx := (HX1.out.below ((Below.refl W1.heap.size W1).alloc (Nat.le_refl _) _) (by omega)).below hb2 (by simp; omega)
    have hbx := (hb2.block W1.heap.size (by simp)).trans (heap_alloc_new W1 _)
    obtain ⟨r0, t0⟩ := hx.r 0
    obtain ⟨r1, t1⟩ := hx.r 1
    obtain ⟨r2, t2⟩ := hx.r 2
    obtain ⟨r3, t3⟩ := hx.r 3
    have q0 := cell_of_row W2 W1.heap.size 0 _ _ _ hbx
    have q1 := cell_of_row W2 W1.heap.size 1 _ _ _ hbx
    have q2 := cell_of_row W2 W1.heap.size 2 _ _ _ hbx
    have q3 := cell_of_row W2 W1.heap.size 3 _ _ _ hbx
    clear hb2 hx hbx HX1
    go_wp2
    refine bodyPost_ret (v := .tuple #[.agg #[.int .i64 kind, .slice ao l.length cap, .bool shut, .int .i64 g], .int .i64 0]) (by simp [results, Tryz.results36, go_sem, r0, r1, r2, r3]) rfl ?_
    refine Stepped.fresh ((HO2.out.four (w.heap.size + 1 + 1) (by omega) _ _ _ _).rd HI.out) HKI.out HEI.out 0 (fun b hb => ?_) (belowFour HB2.out (w.heap.size + 1 + 1) (by omega) _ _ _ _)
    have := HO2.out.fresh b hb
    omega

/-- Step, where it is what the document's step is. -/
theorem step_plain (v : Value) (s : St) (o : Opn) (w : World) (hs : StV w v s) (hk : s.kind ≠ 4) (hlim : s.L.length ≤ 1000000) :
    Calls Tryz.prog 36 #[v, opV o] w fun e w' => Stepped w (lval v) s.L (stepS s o) e w' := by
  rw [← stepO_eq s o (.inl hk)]
  exact step_any v s o w hs hlim

end Go.Proofs.YtanmjihiceibbaaGreat

