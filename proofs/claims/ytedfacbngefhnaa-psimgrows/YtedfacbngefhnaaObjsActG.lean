/- Contracts of objs: act. -/
import Derived.Test.YtedfacbngefhnaaObjsActC
import Derived.Test.YtedfacbngefhnaaObjsActF
namespace Go.Proofs.Ytedfacbngefhnaa
open Go.RowKit

/-- The boxes of a call stay while a row that is none of them is changed. -/
theorem Boxes.mv {W W1 : World} {N : Nat} {s o r : Array Value} {v v' : Value} (h : Boxes W N s o r) (hv : ∀ b, v.ownBlock = some b → b < N) (hm : Mv W W1 v v') : Boxes W1 N s o r := by
  obtain ⟨h1, h2, h3⟩ := h
  have lt : ∀ k x, W.heap[k]? = some x → N ≤ k → W1.heap[k]? = some x := fun k x hk hN => by
    rw [hm.grown.block k (Array.getElem?_eq_some_iff.1 hk).1 (fun e => by have := hv k e.symm; omega)]
    exact hk
  exact ⟨lt _ _ h1 (by omega), lt _ _ h2 (by omega), lt _ _ h3 (by omega)⟩

/-- What a call makes of numbers, behind the writing of its boxes. -/
theorem act_fin {w W0 W1 F : World} {B : Nat} {v v' : Value} {l L' : List Int} (h0 : OwnI w B v l) (hb : Below w.heap.size w W0) (hs : W0.heap.size = w.heap.size + 3) (hm : Mv W0 W1 v v') (ho : OwnI W1 B v' L') (hF : But w.heap.size (w.heap.size + 1 + 1) W1 F) : OwnI F B v' L' ∧ Mv w F v v' := by
  have hv : ∀ b, v.ownBlock = some b → b < w.heap.size := fun b h => (World.ownsRow.lt h0 b h).2
  have hlies : ∀ b, v'.ownBlock = some b → v.ownBlock = some b ∨ w.heap.size + 3 ≤ b := fun b h => by
    rcases hm.lies b h with h' | h'
    · exact .inl h'
    · exact .inr (by omega)
  have hsz := hm.size
  refine ⟨ho.but hF (fun b h => ?_), ⟨⟨hF.os.trans (hm.grown.os.trans hb.os), hF.tape.trans (hm.grown.tape.trans hb.tape), hF.output.trans (hm.grown.output.trans hb.output), by have := hF.size; omega, fun k hk hne => ?_⟩, fun b h => ?_⟩⟩
  · rcases hlies b h with h' | h'
    · have := hv b h'
      omega
    · omega
  · rw [hF.block k (by omega) (by omega) (by omega), hm.grown.block k (by omega) hne]
    exact hb.block k hk
  · rcases hlies b h with h' | h'
    · exact .inl h'
    · exact .inr (by omega)

theorem three_boxes (w : World) (x y z : Obj) : Below w.heap.size w (((w.alloc x).alloc y).alloc z) ∧ (((w.alloc x).alloc y).alloc z).heap.size = w.heap.size + 3 :=
  ⟨(((Below.refl _ _).alloc (Nat.le_refl _) x).alloc (by simp) y).alloc (by simp; omega) z, by simp⟩

theorem OwnI.alloc3 {w : World} {B : Nat} {v : Value} {l : List Int} (h : OwnI w B v l) (x y z : Obj) : OwnI (((w.alloc x).alloc y).alloc z) B v l := ((h.alloc x).alloc y).alloc z

/-- What act answers. -/
def Did (B : Nat) (w : World) (v : Value) (r : St × Int) (e : Ending) (w' : World) : Prop :=
  ∃ v', e = .returned (.tuple #[.agg #[.int .i64 r.1.kind, v', .bool r.1.shut, .int .i64 r.1.eng], .int .i64 r.2]) ∧ OwnI w' B v' r.1.L ∧ Mv w w' v v'

set_option maxRecDepth 100000 in
set_option maxHeartbeats 2000000 in
theorem actShut_any (kind g : Int) (l : List Int) (v : Value) (o : Opn) (B : Nat) (w : World) (ho : OwnI w B v l) :
    Calls Try.prog 60 #[.agg #[.int .i64 kind, v, .bool true, .int .i64 g], opV o] w fun e w' => Did B w v (⟨kind, l, true, g⟩, -1125899906842624) e w' := by
  obtain ⟨code, a, b⟩ := o
  have HO := hide' ho
  obtain ⟨ao, cap, rfl⟩ := ho.shape
  have HM : Hid (∀ x y z, Mv w (((w.alloc x).alloc y).alloc z) (.slice ao l.length cap) (.slice ao l.length cap)) := fun x y z => Mv.ofBelow (three_boxes w x y z).1 _
  clear ho
  show Calls Try.prog _ #[_, .agg #[.int .i64 code, .int .i64 a, .int .i64 b]] w _
  go_enter Try.func60, Try.ntmps60
  go_wp2
  refine bodyPost_ret (v := .tuple #[.agg #[.int .i64 kind, .slice ao l.length cap, .bool true, .int .i64 g], .int .i64 (-1125899906842624)]) (by simp [results, Try.results60, go_sem]) rfl ?_
  exact ⟨_, rfl, HO.out.alloc3 _ _ _, HM.out _ _ _⟩

set_option maxRecDepth 100000 in
set_option maxHeartbeats 2000000 in
theorem actSeal_any (kind g a b : Int) (l : List Int) (v : Value) (B : Nat) (w : World) (ho : OwnI w B v l) :
    Calls Try.prog 60 #[.agg #[.int .i64 kind, v, .bool false, .int .i64 g], .agg #[.int .i64 10, .int .i64 a, .int .i64 b]] w fun e w' => Did B w v (⟨kind, l, true, if 0 ≤ a ∧ a ≤ 2 then a else g⟩, 0) e w' := by
  have HO := hide' ho
  obtain ⟨ao, cap, rfl⟩ := ho.shape
  have HSL := hide' (fun W => seal_any kind ao l.length cap false g a W)
  generalize (if 0 ≤ a ∧ a ≤ 2 then a else g) = t at *
  clear ho
  go_enter Try.func60, Try.ntmps60
  go_wp2_with fail
  refine (HSL.out _).mono ?_
  rintro e W1 ⟨rfl, hb1⟩
  have hbx := (Boxes.made w _ _ _).below hb1 (by simp)
  obtain ⟨r0, s0⟩ := hbx.r 0
  obtain ⟨r1, s1⟩ := hbx.r 1
  obtain ⟨r2, s2⟩ := hbx.r 2
  obtain ⟨r3, s3⟩ := hbx.r 3
  have HFIN := hide' (fun F hF => act_fin (F := F) HO.out (three_boxes w _ _ _).1 (three_boxes w _ _ _).2 (Mv.ofBelow hb1 _) ((HO.out.alloc3 _ _ _).below hb1 (Nat.le_refl _)) hF)
  clear hb1 hbx
  go_wp2
  refine bodyPost_ret (v := .tuple #[.agg #[.int .i64 kind, .slice ao l.length cap, .bool true, .int .i64 t], .int .i64 0]) (by simp [results, Try.results60, go_sem, r0, r1, r2, r3]) rfl ?_
  exact ⟨_, rfl, HFIN.out _ ((But.refl _ _ _).four _ (.inr rfl) _ _ _ _)⟩

set_option maxRecDepth 100000 in
set_option maxHeartbeats 2000000 in
theorem actOne_any (kind g : Int) (hk : kind = 0 ∨ kind = 1) (l : List Int) (v : Value) (o : Opn) (hc : o.code ≠ 10) (B : Nat) (w : World) (ho : OwnI w B v l) (hl : l.length = 1) (hb0 : -1099511627776 ≤ l.getD 0 0) (hb1 : l.getD 0 0 ≤ 1099511627776) :
    Calls Try.prog 60 #[.agg #[.int .i64 kind, v, .bool false, .int .i64 g], opV o] w fun e w' => Did B w v (oneS ⟨kind, l, false, g⟩ o) e w' := by
  have HO := hide' ho
  have hknd := one_kind ⟨kind, l, false, g⟩ o
  obtain ⟨L', n', hE⟩ : ∃ L' n', oneS ⟨kind, l, false, g⟩ o = (⟨kind, L', false, g⟩, n') := by
    obtain ⟨h1, h2, h3⟩ := hknd
    refine ⟨(oneS ⟨kind, l, false, g⟩ o).1.L, (oneS ⟨kind, l, false, g⟩ o).2, ?_⟩
    rcases hr : oneS ⟨kind, l, false, g⟩ o with ⟨⟨k1, l1, s1, g1⟩, n1⟩
    rw [hr] at h1 h2 h3
    simp only at h1 h2 h3
    rw [h1, h2, h3]
  have HC : Hid (∀ W, OwnI W B v l → Calls Try.prog (if kind = 0 then 63 else 64) #[v, opV o] W fun e w' => e = .returned (.int .i64 n') ∧ OwnI w' B v L' ∧ Mv W w' v v) := fun W h => by
    rcases hk with rfl | rfl
    · have := counter_any v l o false g B W h hl hb0 hb1
      rw [hE] at this
      exact this
    · have := register_any v l o false g B W h hl
      rw [hE] at this
      exact this
  rw [hE]
  obtain ⟨code, a, b⟩ := o
  have e10 : (code == 10) = false := beq_eq_false_iff_ne.2 hc
  obtain ⟨ao, cap, rfl⟩ := ho.shape
  have hv : ∀ b, (Value.slice ao l.length cap).ownBlock = some b → b < w.heap.size := fun b h => (World.ownsRow.lt ho b h).2
  have HV := hide' hv
  clear ho hE hknd hc hl hb0 hb1 hv
  show Calls Try.prog _ #[_, .agg #[.int .i64 code, .int .i64 a, .int .i64 b]] w _
  rcases hk with rfl | rfl
  · rw [if_pos rfl] at HC
    go_enter Try.func60, Try.ntmps60
    go_wp2_with fail
    refine (HC.out _ (HO.out.alloc3 _ _ _)).mono ?_
    rintro e W1 ⟨rfl, ho1, hm1⟩
    have hbx := (Boxes.made w _ _ _).mv HV.out hm1
    obtain ⟨q0, -⟩ := hbx.s 0
    obtain ⟨q1, -⟩ := hbx.s 1
    obtain ⟨q2, -⟩ := hbx.s 2
    obtain ⟨q3, -⟩ := hbx.s 3
    obtain ⟨r0, s0⟩ := hbx.r 0
    obtain ⟨r1, s1⟩ := hbx.r 1
    obtain ⟨r2, s2⟩ := hbx.r 2
    obtain ⟨r3, s3⟩ := hbx.r 3
    have HFIN := hide' (fun F hF => act_fin (F := F) HO.out (three_boxes w _ _ _).1 (three_boxes w _ _ _).2 hm1 ho1 hF)
    clear hbx ho1 hm1
    go_wp2
    refine bodyPost_ret (v := .tuple #[.agg #[.int .i64 0, .slice ao l.length cap, .bool false, .int .i64 g], .int .i64 n']) (by simp [results, Try.results60, go_sem, r0, r1, r2, r3]) rfl ?_
    exact ⟨_, rfl, HFIN.out _ ((But.refl _ _ _).four _ (.inr rfl) _ _ _ _)⟩
  · rw [if_neg (by decide)] at HC
    go_enter Try.func60, Try.ntmps60
    go_wp2_with fail
    refine (HC.out _ (HO.out.alloc3 _ _ _)).mono ?_
    rintro e W1 ⟨rfl, ho1, hm1⟩
    have hbx := (Boxes.made w _ _ _).mv HV.out hm1
    obtain ⟨q0, -⟩ := hbx.s 0
    obtain ⟨q1, -⟩ := hbx.s 1
    obtain ⟨q2, -⟩ := hbx.s 2
    obtain ⟨q3, -⟩ := hbx.s 3
    obtain ⟨r0, s0⟩ := hbx.r 0
    obtain ⟨r1, s1⟩ := hbx.r 1
    obtain ⟨r2, s2⟩ := hbx.r 2
    obtain ⟨r3, s3⟩ := hbx.r 3
    have HFIN := hide' (fun F hF => act_fin (F := F) HO.out (three_boxes w _ _ _).1 (three_boxes w _ _ _).2 hm1 ho1 hF)
    clear hbx ho1 hm1
    go_wp2
    refine bodyPost_ret (v := .tuple #[.agg #[.int .i64 1, .slice ao l.length cap, .bool false, .int .i64 g], .int .i64 n']) (by simp [results, Try.results60, go_sem, r0, r1, r2, r3]) rfl ?_
    exact ⟨_, rfl, HFIN.out _ ((But.refl _ _ _).four _ (.inr rfl) _ _ _ _)⟩

/-- A call that hands back the numbers and an answer. -/
theorem actMid {w W1 : World} {B : Nat} {kind g : Int} {l L' : List Int} {ao ao1 : Option Addr} {cap cap1 : Nat} {xs xo xr : Array Value} (h0 : OwnI w B (.slice ao l.length cap) l) (ho1 : OwnI W1 B (.slice ao1 L'.length cap1) L') (hm1 : Mv (((w.alloc (.cells xs 24)).alloc (.cells xo 26)).alloc (.cells xr 24)) W1 (.slice ao l.length cap) (.slice ao1 L'.length cap1)) :
    OwnI (wrote5 W1 w.heap.size (w.heap.size + 1 + 1) (.slice ao1 L'.length cap1) (.int .i64 kind) (.slice ao1 L'.length cap1) (.bool false) (.int .i64 g)) B (.slice ao1 L'.length cap1) L' ∧ Mv w (wrote5 W1 w.heap.size (w.heap.size + 1 + 1) (.slice ao1 L'.length cap1) (.int .i64 kind) (.slice ao1 L'.length cap1) (.bool false) (.int .i64 g)) (.slice ao l.length cap) (.slice ao1 L'.length cap1) :=
  act_fin h0 (three_boxes w _ _ _).1 (three_boxes w _ _ _).2 hm1 ho1 (((But.refl _ _ _).set _ _ (.inl rfl) _).four _ (.inr rfl) _ _ _ _)

set_option maxRecDepth 100000 in
set_option maxHeartbeats 2000000 in
theorem actLine_any (kind g : Int) (hk : kind = 2 ∨ kind = 3) (l L' : List Int) (n' : Int) (v : Value) (code a b : Int) (hc : code ≠ 10) (B : Nat) (w : World) (ho : OwnI w B v l)
    (HC : Hid (∀ W, OwnI W B v l → B ≤ W.heap.size → Calls Try.prog 65 #[.int .i64 kind, v, .agg #[.int .i64 code, .int .i64 a, .int .i64 b]] W fun e w' => Acted B W v L' n' e w')) (hB : B ≤ w.heap.size) :
    Calls Try.prog 60 #[.agg #[.int .i64 kind, v, .bool false, .int .i64 g], .agg #[.int .i64 code, .int .i64 a, .int .i64 b]] w fun e w' => Did B w v (⟨kind, L', false, g⟩, n') e w' := by
  have HO := hide' ho
  have e10 : (code == 10) = false := beq_eq_false_iff_ne.2 hc
  obtain ⟨ao, cap, rfl⟩ := ho.shape
  have hv : ∀ b, (Value.slice ao l.length cap).ownBlock = some b → b < w.heap.size := fun b h => (World.ownsRow.lt ho b h).2
  have HV := hide' hv
  clear ho hc hv
  rcases hk with rfl | rfl
  · go_enter Try.func60, Try.ntmps60
    go_wp2_with fail
    refine (HC.out _ (HO.out.alloc3 _ _ _) (by simp; omega)).mono ?_
    rintro e W1 ⟨v1, rfl, ho1, hm1⟩
    obtain ⟨ao1, cap1, rfl⟩ := ho1.shape
    have hbx := (Boxes.made w _ _ _).mv HV.out hm1
    obtain ⟨q0, -⟩ := hbx.s 0
    obtain ⟨q1, f1⟩ := hbx.s 1
    obtain ⟨q2, -⟩ := hbx.s 2
    obtain ⟨q3, -⟩ := hbx.s 3
    obtain ⟨r0, s0⟩ := hbx.r 0
    obtain ⟨r1, s1⟩ := hbx.r 1
    obtain ⟨r2, s2⟩ := hbx.r 2
    obtain ⟨r3, s3⟩ := hbx.r 3
    have HFIN := hide' (fun kind => actMid (kind := kind) (g := g) HO.out ho1 hm1)
    clear hbx ho1 hm1
    go_wp2
    refine bodyPost_ret (v := .tuple #[.agg #[.int .i64 2, .slice ao1 L'.length cap1, .bool false, .int .i64 g], .int .i64 n']) (by simp [results, Try.results60, go_sem, r0, r1, r2, r3]) rfl ?_
    exact ⟨_, rfl, HFIN.out _⟩
  · go_enter Try.func60, Try.ntmps60
    go_wp2_with fail
    refine (HC.out _ (HO.out.alloc3 _ _ _) (by simp; omega)).mono ?_
    rintro e W1 ⟨v1, rfl, ho1, hm1⟩
    obtain ⟨ao1, cap1, rfl⟩ := ho1.shape
    have hbx := (Boxes.made w _ _ _).mv HV.out hm1
    obtain ⟨q0, -⟩ := hbx.s 0
    obtain ⟨q1, f1⟩ := hbx.s 1
    obtain ⟨q2, -⟩ := hbx.s 2
    obtain ⟨q3, -⟩ := hbx.s 3
    obtain ⟨r0, s0⟩ := hbx.r 0
    obtain ⟨r1, s1⟩ := hbx.r 1
    obtain ⟨r2, s2⟩ := hbx.r 2
    obtain ⟨r3, s3⟩ := hbx.r 3
    have HFIN := hide' (fun kind => actMid (kind := kind) (g := g) HO.out ho1 hm1)
    clear hbx ho1 hm1
    go_wp2
    refine bodyPost_ret (v := .tuple #[.agg #[.int .i64 3, .slice ao1 L'.length cap1, .bool false, .int .i64 g], .int .i64 n']) (by simp [results, Try.results60, go_sem, r0, r1, r2, r3]) rfl ?_
    exact ⟨_, rfl, HFIN.out _⟩

set_option maxRecDepth 100000 in
set_option maxHeartbeats 2000000 in
theorem actStore_any (kind g : Int) (hk : kind = 4) (l L' : List Int) (n' : Int) (v : Value) (code a b : Int) (hc : code ≠ 10) (B : Nat) (w : World) (ho : OwnI w B v l)
    (HC : Hid (∀ W, OwnI W B v l → B ≤ W.heap.size → Calls Try.prog 66 #[v, .agg #[.int .i64 code, .int .i64 a, .int .i64 b]] W fun e w' => Acted B W v L' n' e w')) (hB : B ≤ w.heap.size) :
    Calls Try.prog 60 #[.agg #[.int .i64 kind, v, .bool false, .int .i64 g], .agg #[.int .i64 code, .int .i64 a, .int .i64 b]] w fun e w' => Did B w v (⟨kind, L', false, g⟩, n') e w' := by
  have HO := hide' ho
  have e10 : (code == 10) = false := beq_eq_false_iff_ne.2 hc
  obtain ⟨ao, cap, rfl⟩ := ho.shape
  have hv : ∀ b, (Value.slice ao l.length cap).ownBlock = some b → b < w.heap.size := fun b h => (World.ownsRow.lt ho b h).2
  have HV := hide' hv
  clear ho hc hv
  subst hk
  all_goals
    go_enter Try.func60, Try.ntmps60
    go_wp2_with fail
    refine (HC.out _ (HO.out.alloc3 _ _ _) (by simp; omega)).mono ?_
    rintro e W1 ⟨v1, rfl, ho1, hm1⟩
    obtain ⟨ao1, cap1, rfl⟩ := ho1.shape
    have hbx := (Boxes.made w _ _ _).mv HV.out hm1
    obtain ⟨q0, -⟩ := hbx.s 0
    obtain ⟨q1, f1⟩ := hbx.s 1
    obtain ⟨q2, -⟩ := hbx.s 2
    obtain ⟨q3, -⟩ := hbx.s 3
    obtain ⟨r0, s0⟩ := hbx.r 0
    obtain ⟨r1, s1⟩ := hbx.r 1
    obtain ⟨r2, s2⟩ := hbx.r 2
    obtain ⟨r3, s3⟩ := hbx.r 3
    have HFIN := hide' (fun kind => actMid (kind := kind) (g := g) HO.out ho1 hm1)
    clear hbx ho1 hm1
    go_wp2
    refine bodyPost_ret (v := .tuple #[.agg #[.int .i64 4, .slice ao1 L'.length cap1, .bool false, .int .i64 g], .int .i64 n']) (by simp [results, Try.results60, go_sem, r0, r1, r2, r3]) rfl ?_
    exact ⟨_, rfl, HFIN.out _⟩

set_option maxRecDepth 100000 in
set_option maxHeartbeats 2000000 in
theorem actLedger_any (kind g : Int) (hk : kind = 5) (l L' : List Int) (n' : Int) (v : Value) (code a b : Int) (hc : code ≠ 10) (B : Nat) (w : World) (ho : OwnI w B v l)
    (HC : Hid (∀ W, OwnI W B v l → B ≤ W.heap.size → Calls Try.prog 67 #[v, .agg #[.int .i64 code, .int .i64 a, .int .i64 b]] W fun e w' => Acted B W v L' n' e w')) (hB : B ≤ w.heap.size) :
    Calls Try.prog 60 #[.agg #[.int .i64 kind, v, .bool false, .int .i64 g], .agg #[.int .i64 code, .int .i64 a, .int .i64 b]] w fun e w' => Did B w v (⟨kind, L', false, g⟩, n') e w' := by
  have HO := hide' ho
  have e10 : (code == 10) = false := beq_eq_false_iff_ne.2 hc
  obtain ⟨ao, cap, rfl⟩ := ho.shape
  have hv : ∀ b, (Value.slice ao l.length cap).ownBlock = some b → b < w.heap.size := fun b h => (World.ownsRow.lt ho b h).2
  have HV := hide' hv
  clear ho hc hv
  subst hk
  all_goals
    go_enter Try.func60, Try.ntmps60
    go_wp2_with fail
    refine (HC.out _ (HO.out.alloc3 _ _ _) (by simp; omega)).mono ?_
    rintro e W1 ⟨v1, rfl, ho1, hm1⟩
    obtain ⟨ao1, cap1, rfl⟩ := ho1.shape
    have hbx := (Boxes.made w _ _ _).mv HV.out hm1
    obtain ⟨q0, -⟩ := hbx.s 0
    obtain ⟨q1, f1⟩ := hbx.s 1
    obtain ⟨q2, -⟩ := hbx.s 2
    obtain ⟨q3, -⟩ := hbx.s 3
    obtain ⟨r0, s0⟩ := hbx.r 0
    obtain ⟨r1, s1⟩ := hbx.r 1
    obtain ⟨r2, s2⟩ := hbx.r 2
    obtain ⟨r3, s3⟩ := hbx.r 3
    have HFIN := hide' (fun kind => actMid (kind := kind) (g := g) HO.out ho1 hm1)
    clear hbx ho1 hm1
    go_wp2
    refine bodyPost_ret (v := .tuple #[.agg #[.int .i64 5, .slice ao1 L'.length cap1, .bool false, .int .i64 g], .int .i64 n']) (by simp [results, Try.results60, go_sem, r0, r1, r2, r3]) rfl ?_
    exact ⟨_, rfl, HFIN.out _⟩

end Go.Proofs.Ytedfacbngefhnaa
