/- Proved: for all states, operations and kinds the law ObjsMay answers true (and the call leaves all older memory as it was). No condition. -/
import Derived.Test.YtclankoffcfkfaaObjsInts
import Derived.Test.YtclankoffcfkfaaRef04D
import Derived.Test.YtclankoffcfkfaaRef04S
import Derived.OpenShut
import Derived.ChangeOld
import Derived.Deep.RegionHeld
namespace Go.Proofs.Ytclankoffcfkfaa.objsMay
open Go.ChangeShapes Go.WideShapes Go.ChangeAt Go.RowKit

/-- The three boxes, as they stand through the whole call. -/
def Still (w : World) (c d e : Array Value) (W : World) : Prop :=
  Below w.heap.size w W ∧ w.heap.size + 1 + 1 + 1 ≤ W.heap.size ∧ Bx W w.heap.size c ∧ Bx W (w.heap.size + 1) d ∧ Bo W (w.heap.size + 1 + 1) e

theorem Still.below {w : World} {c d e : Array Value} {W W' : World} (h : Still w c d e W) (hb : Below W.heap.size W W') : Still w c d e W' :=
  ⟨h.1.trans (hb.mono h.1.size), Nat.le_trans h.2.1 hb.size, h.2.2.1.below hb (Nat.le_refl _), h.2.2.2.1.below hb (Nat.le_refl _), h.2.2.2.2.below hb (Nat.le_refl _)⟩

theorem Still.made (w : World) (c d e : Array Value) : Still w c d e (((w.alloc (.cells c 24)).alloc (.cells d 24)).alloc (.cells e 26)) := by
  refine ⟨(((Below.refl _ _).alloc (Nat.le_refl _) _).alloc (by simp) _).alloc (by simp; omega) _, by simp, ?_, ?_, ?_⟩
  · refine (Below.heap_alloc _ _ _ (by simp; omega)).trans ((Below.heap_alloc _ _ _ (by simp)).trans ?_)
    exact heap_alloc_new w _
  · refine (Below.heap_alloc _ _ _ (by simp)).trans ?_
    have h := heap_alloc_new (w.alloc (.cells c 24)) (.cells d 24)
    have e : (w.alloc (.cells c 24)).heap.size = w.heap.size + 1 := by simp
    rw [e] at h
    exact h
  · have h := heap_alloc_new ((w.alloc (.cells c 24)).alloc (.cells d 24)) (.cells e 26)
    have e : ((w.alloc (.cells c 24)).alloc (.cells d 24)).heap.size = w.heap.size + 1 + 1 := by simp
    rw [e] at h
    exact h

/-- What a region of reads holds on to. -/
def Held (w : World) (c0 c1 c2 c3 d0 d1 d2 d3 e0 e1 e2 : Value) (W : World) : Prop :=
  Still w #[c0, c1, c2, c3] #[d0, d1, d2, d3] #[e0, e1, e2] W ∧
  W.cell? ⟨w.heap.size, 0, none⟩ = some c0 ∧ W.cell? ⟨w.heap.size, 1, none⟩ = some c1 ∧ W.cell? ⟨w.heap.size, 2, none⟩ = some c2 ∧ W.cell? ⟨w.heap.size, 3, none⟩ = some c3 ∧
  W.cell? ⟨w.heap.size + 1, 0, none⟩ = some d0 ∧ W.cell? ⟨w.heap.size + 1, 1, none⟩ = some d1 ∧ W.cell? ⟨w.heap.size + 1, 2, none⟩ = some d2 ∧ W.cell? ⟨w.heap.size + 1, 3, none⟩ = some d3 ∧
  W.cell? ⟨w.heap.size + 1 + 1, 0, none⟩ = some e0 ∧ W.cell? ⟨w.heap.size + 1 + 1, 1, none⟩ = some e1 ∧ W.cell? ⟨w.heap.size + 1 + 1, 2, none⟩ = some e2

theorem Still.held {w : World} {c0 c1 c2 c3 d0 d1 d2 d3 e0 e1 e2 : Value} {W : World} (h : Still w #[c0, c1, c2, c3] #[d0, d1, d2, d3] #[e0, e1, e2] W) : Held w c0 c1 c2 c3 d0 d1 d2 d3 e0 e1 e2 W := by
  obtain ⟨_, _, hc, hd, he⟩ := id h
  exact ⟨h, (hc.cell 0).1, (hc.cell 1).1, (hc.cell 2).1, (hc.cell 3).1, (hd.cell 0).1, (hd.cell 1).1, (hd.cell 2).1, (hd.cell 3).1, (he.cell 0).1, (he.cell 1).1, (he.cell 2).1⟩

set_option linter.unusedVariables false in
set_option maxRecDepth 100000 in
set_option maxHeartbeats 8000000 in
theorem walk (v : Value) (s : St) (u : Value) (t : St) (o : Opn) (kd : Int) (w : World) (hs : StV w v s) (ht : StV w u t) (ho : OpOk o) (hkd : (Lit.int .i64 kd).wf = true) :
    Calls Try.prog 4 #[v, u, opV o, .int .i64 kd] w fun e w' => e = .returned (.bool true) ∧ Below w.heap.size w w' := by
  have HA := hide' (fun w => awakeO_any w)
  have HF1 := hide' (fun w h => few_any v s w h)
  have HF2 := hide' (fun w h => few_any u t w h)
  have HM1 := hide' (fun w h => may_any v s w h)
  have HM2 := hide' (fun w h => refMay_any v s w h)
  have HI1 := hide' (fun w => fits_any o w)
  have HI2 := hide' (fun w => refFits_any o w)
  have HS1 := hide' (fun w h1 h2 => sameS_any v s u t w h1 h2)
  have HS2 := hide' (fun w h1 h2 => refSameS_any v s u t w h1 h2)
  have HS3 := hide' (fun w h1 h2 => sameS_any v s v s w h1 h2)
  have HT1 := hide' (fun w => start_any kd w)
  have HT2 := hide' (fun w => refStart_any kd w)
  have HSS := hide' (fun w1 va a vb b h1 h2 => refSameS_any va a vb b w1 h1 h2)
  have HSV := hide' hs
  have HTV := hide' ht
  obtain ⟨vl, rfl, hr, -, -⟩ := hs
  obtain ⟨ul, rfl, hr2, -, -⟩ := ht
  obtain ⟨ao, cap, rfl, -⟩ := hr
  obtain ⟨ao2, cap2, rfl, -⟩ := hr2
  obtain ⟨kind, l, shut, g⟩ := s
  obtain ⟨kind2, l2, shut2, g2⟩ := t
  obtain ⟨code, a, b⟩ := o
  simp only at *
  have HOV : Hid (opV ⟨code, a, b⟩ = .agg #[.int .i64 code, .int .i64 a, .int .i64 b]) := rfl
  rw [HOV.out] at HI1 HI2
  have hself := decide_eq_true (sameS_refl ⟨kind, l, shut, g⟩)
  rw [hself] at HS3
  clear ho hkd hself
  show Calls Try.prog _ #[.agg #[.int .i64 kind, .slice ao l.length cap, .bool shut, .int .i64 g], .agg #[.int .i64 kind2, .slice ao2 l2.length cap2, .bool shut2, .int .i64 g2], .agg #[.int .i64 code, .int .i64 a, .int .i64 b], .int .i64 kd] w _
  have K0 := hide' (Still.made w #[.int .i64 kind, .slice ao l.length cap, .bool shut, .int .i64 g] #[.int .i64 kind2, .slice ao2 l2.length cap2, .bool shut2, .int .i64 g2] #[.int .i64 code, .int .i64 a, .int .i64 b])
  go_enter Try.func4, Try.ntmps4
  go_wp2_with fail
  refine (HA.out _).mono ?_
  rintro e w1 ⟨rfl, hb1⟩
  have K1 := hide' (K0.out.below hb1)
  clear hb1 K0 HA
  obtain ⟨-, q0, q1, q2, q3, p0, p1, p2, p3, -⟩ := K1.out.held
  go_wp2_with fail
  refine (HF1.out _ (HSV.out.below K1.out.1 (Nat.le_refl _))).mono ?_
  rintro e w2 ⟨rfl, hb2⟩
  have K2 := hide' (K1.out.below hb2)
  clear hb2 K1 q0 q1 q2 q3 p0 p1 p2 p3
  obtain ⟨-, q0, q1, q2, q3, p0, p1, p2, p3, -⟩ := K2.out.held
  go_wp2_with fail
  refine (HF2.out _ (HTV.out.below K2.out.1 (Nat.le_refl _))).mono ?_
  rintro e w3 ⟨rfl, hb3⟩
  have K3 := hide' (K2.out.below hb3)
  clear hb3 K2 q0 q1 q2 q3 p0 p1 p2 p3
  by_cases hl : (l.length : Int) ≤ 300
  · rw [decide_eq_true hl]
    by_cases hl2 : (l2.length : Int) ≤ 300
    · rw [decide_eq_true hl2]
      go_wp2_with fail
      refine (HT1.out _).mono ?_
      rintro e w4 ⟨v4, rfl, hv4, hb4⟩
      have K4 := hide' (K3.out.below hb4)
      have HV4 := hide' hv4
      clear hb4 hv4 K3
      go_wp2_with fail
      refine (HT2.out _).mono ?_
      rintro e w5 ⟨v5, rfl, hv5, hb5⟩
      have K5 := hide' (K4.out.below hb5)
      have HV45 := hide' (HV4.out.below hb5 (Nat.le_refl _))
      have HV5 := hide' hv5
      clear hb5 hv5 K4 HV4
      go_wp2_with fail
      refine (HSS.out _ _ _ _ _ HV45.out HV5.out).mono ?_
      rintro e w6 ⟨rfl, hb6⟩
      rw [decide_eq_true (sameS_refl _)]
      have K6 := hide' (K5.out.below hb6)
      clear hb6 K5 HV45 HV5 HT1 HT2 HSS HF1 HF2
      have hS' : Held w (.int .i64 kind) (.slice ao l.length cap) (.bool shut) (.int .i64 g) (.int .i64 kind2) (.slice ao2 l2.length cap2) (.bool shut2) (.int .i64 g2) (.int .i64 code) (.int .i64 a) (.int .i64 b) w6.drew := (K6.out.below ((Below.refl _ _).drew)).held
      have C1 : Hid (∀ W, Held w (.int .i64 kind) (.slice ao l.length cap) (.bool shut) (.int .i64 g) (.int .i64 kind2) (.slice ao2 l2.length cap2) (.bool shut2) (.int .i64 g2) (.int .i64 code) (.int .i64 a) (.int .i64 b) W → Calls Try.prog 16 #[.agg #[.int .i64 kind, .slice ao l.length cap, .bool shut, .int .i64 g]] W fun e w' => e = .returned (.bool (decide (MayS ⟨kind, l, shut, g⟩))) ∧ Held w (.int .i64 kind) (.slice ao l.length cap) (.bool shut) (.int .i64 g) (.int .i64 kind2) (.slice ao2 l2.length cap2) (.bool shut2) (.int .i64 g2) (.int .i64 code) (.int .i64 a) (.int .i64 b) w') := fun W h => (HM1.out W (HSV.out.below h.1.1 (Nat.le_refl _))).mono (fun e w' hh => ⟨hh.1, (h.1.below hh.2).held⟩)
      have C2 : Hid (∀ W, Held w (.int .i64 kind) (.slice ao l.length cap) (.bool shut) (.int .i64 g) (.int .i64 kind2) (.slice ao2 l2.length cap2) (.bool shut2) (.int .i64 g2) (.int .i64 code) (.int .i64 a) (.int .i64 b) W → Calls Try.prog 17 #[.agg #[.int .i64 kind, .slice ao l.length cap, .bool shut, .int .i64 g]] W fun e w' => e = .returned (.bool (decide (MayS ⟨kind, l, shut, g⟩))) ∧ Held w (.int .i64 kind) (.slice ao l.length cap) (.bool shut) (.int .i64 g) (.int .i64 kind2) (.slice ao2 l2.length cap2) (.bool shut2) (.int .i64 g2) (.int .i64 code) (.int .i64 a) (.int .i64 b) w') := fun W h => (HM2.out W (HSV.out.below h.1.1 (Nat.le_refl _))).mono (fun e w' hh => ⟨hh.1, (h.1.below hh.2).held⟩)
      have C3 : Hid (∀ W, Held w (.int .i64 kind) (.slice ao l.length cap) (.bool shut) (.int .i64 g) (.int .i64 kind2) (.slice ao2 l2.length cap2) (.bool shut2) (.int .i64 g2) (.int .i64 code) (.int .i64 a) (.int .i64 b) W → Calls Try.prog 18 #[.agg #[.int .i64 code, .int .i64 a, .int .i64 b]] W fun e w' => e = .returned (.bool (decide (FitsO ⟨code, a, b⟩))) ∧ Held w (.int .i64 kind) (.slice ao l.length cap) (.bool shut) (.int .i64 g) (.int .i64 kind2) (.slice ao2 l2.length cap2) (.bool shut2) (.int .i64 g2) (.int .i64 code) (.int .i64 a) (.int .i64 b) w') := fun W h => (HI1.out W).mono (fun e w' hh => ⟨hh.1, (h.1.below hh.2).held⟩)
      have C4 : Hid (∀ W, Held w (.int .i64 kind) (.slice ao l.length cap) (.bool shut) (.int .i64 g) (.int .i64 kind2) (.slice ao2 l2.length cap2) (.bool shut2) (.int .i64 g2) (.int .i64 code) (.int .i64 a) (.int .i64 b) W → Calls Try.prog 19 #[.agg #[.int .i64 code, .int .i64 a, .int .i64 b]] W fun e w' => e = .returned (.bool (decide (FitsO ⟨code, a, b⟩))) ∧ Held w (.int .i64 kind) (.slice ao l.length cap) (.bool shut) (.int .i64 g) (.int .i64 kind2) (.slice ao2 l2.length cap2) (.bool shut2) (.int .i64 g2) (.int .i64 code) (.int .i64 a) (.int .i64 b) w') := fun W h => (HI2.out W).mono (fun e w' hh => ⟨hh.1, (h.1.below hh.2).held⟩)
      have C5 : Hid (∀ W, Held w (.int .i64 kind) (.slice ao l.length cap) (.bool shut) (.int .i64 g) (.int .i64 kind2) (.slice ao2 l2.length cap2) (.bool shut2) (.int .i64 g2) (.int .i64 code) (.int .i64 a) (.int .i64 b) W → Calls Try.prog 20 #[.agg #[.int .i64 kind, .slice ao l.length cap, .bool shut, .int .i64 g], .agg #[.int .i64 kind2, .slice ao2 l2.length cap2, .bool shut2, .int .i64 g2]] W fun e w' => e = .returned (.bool (decide (SameS ⟨kind, l, shut, g⟩ ⟨kind2, l2, shut2, g2⟩))) ∧ Held w (.int .i64 kind) (.slice ao l.length cap) (.bool shut) (.int .i64 g) (.int .i64 kind2) (.slice ao2 l2.length cap2) (.bool shut2) (.int .i64 g2) (.int .i64 code) (.int .i64 a) (.int .i64 b) w') := fun W h => (HS1.out W (HSV.out.below h.1.1 (Nat.le_refl _)) (HTV.out.below h.1.1 (Nat.le_refl _))).mono (fun e w' hh => ⟨hh.1, (h.1.below hh.2).held⟩)
      have C6 : Hid (∀ W, Held w (.int .i64 kind) (.slice ao l.length cap) (.bool shut) (.int .i64 g) (.int .i64 kind2) (.slice ao2 l2.length cap2) (.bool shut2) (.int .i64 g2) (.int .i64 code) (.int .i64 a) (.int .i64 b) W → Calls Try.prog 13 #[.agg #[.int .i64 kind, .slice ao l.length cap, .bool shut, .int .i64 g], .agg #[.int .i64 kind2, .slice ao2 l2.length cap2, .bool shut2, .int .i64 g2]] W fun e w' => e = .returned (.bool (decide (SameS ⟨kind, l, shut, g⟩ ⟨kind2, l2, shut2, g2⟩))) ∧ Held w (.int .i64 kind) (.slice ao l.length cap) (.bool shut) (.int .i64 g) (.int .i64 kind2) (.slice ao2 l2.length cap2) (.bool shut2) (.int .i64 g2) (.int .i64 code) (.int .i64 a) (.int .i64 b) w') := fun W h => (HS2.out W (HSV.out.below h.1.1 (Nat.le_refl _)) (HTV.out.below h.1.1 (Nat.le_refl _))).mono (fun e w' hh => ⟨hh.1, (h.1.below hh.2).held⟩)
      have C7 : Hid (∀ W, Held w (.int .i64 kind) (.slice ao l.length cap) (.bool shut) (.int .i64 g) (.int .i64 kind2) (.slice ao2 l2.length cap2) (.bool shut2) (.int .i64 g2) (.int .i64 code) (.int .i64 a) (.int .i64 b) W → Calls Try.prog 20 #[.agg #[.int .i64 kind, .slice ao l.length cap, .bool shut, .int .i64 g], .agg #[.int .i64 kind, .slice ao l.length cap, .bool shut, .int .i64 g]] W fun e w' => e = .returned (.bool (true)) ∧ Held w (.int .i64 kind) (.slice ao l.length cap) (.bool shut) (.int .i64 g) (.int .i64 kind2) (.slice ao2 l2.length cap2) (.bool shut2) (.int .i64 g2) (.int .i64 code) (.int .i64 a) (.int .i64 b) w') := fun W h => (HS3.out W (HSV.out.below h.1.1 (Nat.le_refl _)) (HSV.out.below h.1.1 (Nat.le_refl _))).mono (fun e w' hh => ⟨hh.1, (h.1.below hh.2).held⟩)
      clear HM1 HM2 HI1 HI2 HS1 HS2 HS3
      generalize decide (MayS ⟨kind, l, shut, g⟩) = bm at *
      generalize decide (FitsO ⟨code, a, b⟩) = bf at *
      generalize decide (SameS ⟨kind, l, shut, g⟩ ⟨kind2, l2, shut2, g2⟩) = bs at *
      go_wp2
      go_region_held (fun w' => Still w #[.int .i64 kind, .slice ao l.length cap, .bool shut, .int .i64 g] #[.int .i64 kind2, .slice ao2 l2.length cap2, .bool shut2, .int .i64 g2] #[.int .i64 code, .int .i64 a, .int .i64 b] w' ∧ w'.cell? ⟨w.heap.size, 0, none⟩ = some (.int .i64 kind) ∧ w'.cell? ⟨w.heap.size, 1, none⟩ = some (.slice ao l.length cap) ∧ w'.cell? ⟨w.heap.size, 2, none⟩ = some (.bool shut) ∧ w'.cell? ⟨w.heap.size, 3, none⟩ = some (.int .i64 g) ∧ w'.cell? ⟨w.heap.size + 1, 0, none⟩ = some (.int .i64 kind2) ∧ w'.cell? ⟨w.heap.size + 1, 1, none⟩ = some (.slice ao2 l2.length cap2) ∧ w'.cell? ⟨w.heap.size + 1, 2, none⟩ = some (.bool shut2) ∧ w'.cell? ⟨w.heap.size + 1, 3, none⟩ = some (.int .i64 g2) ∧ w'.cell? ⟨w.heap.size + 1 + 1, 0, none⟩ = some (.int .i64 code) ∧ w'.cell? ⟨w.heap.size + 1 + 1, 1, none⟩ = some (.int .i64 a) ∧ w'.cell? ⟨w.heap.size + 1 + 1, 2, none⟩ = some (.int .i64 b)) (exact hS')
        (first
          | (go_at_call 16; refine (C1.out _ (by assumption)).mono ?_; rintro e w' ⟨rfl, hS'⟩)
          | (go_at_call 17; refine (C2.out _ (by assumption)).mono ?_; rintro e w' ⟨rfl, hS'⟩)
          | (go_at_call 18; refine (C3.out _ (by assumption)).mono ?_; rintro e w' ⟨rfl, hS'⟩)
          | (go_at_call 19; refine (C4.out _ (by assumption)).mono ?_; rintro e w' ⟨rfl, hS'⟩)
          | (go_at_call_of 20 (Value.agg #[Value.int .i64 kind2, Value.slice ao2 l2.length cap2, Value.bool shut2, Value.int .i64 g2]); refine (C5.out _ (by assumption)).mono ?_; rintro e w' ⟨rfl, hS'⟩)
          | (go_at_call 13; refine (C6.out _ (by assumption)).mono ?_; rintro e w' ⟨rfl, hS'⟩)
          | (go_at_call 20; refine (C7.out _ (by assumption)).mono ?_; rintro e w' ⟨rfl, hS'⟩))
      all_goals
        go_wp2
        go_ret
        exact ⟨rfl, hS'.1.1⟩
    · rw [decide_eq_false hl2]
      go_wp2
      go_ret
      exact ⟨rfl, K3.out.1⟩
  · rw [decide_eq_false hl]
    go_wp2
    go_ret
    exact ⟨rfl, K3.out.1⟩

theorem own : ownKnob Try.prog.godebug = none := by kernel_rfl
theorem laidOut : laidOutB Try.prog = true := by kernel_rfl

set_option linter.unusedVariables false in
set_option maxRecDepth 100000 in
theorem lifted (os : Os) (started : os.Started) (H : Type) (enc : TypeId × Value → H) :
    ReturnsInHanded {} Try.checked os 4 .any (Rows.objsMaySpec.pre6 enc Try.prog Try.f4 Rows.objsMayRow.domain false) (Rows.objsMaySpec.post enc Try.prog Try.f4 false true false false) := by
  refine returnsInHanded_of_change (C := Try.checked) own started (by kernel_rfl) Try.func4
    (ChangeSpec.witness6 (enc := enc) (C := Try.checked) false ⟨#[], #[.agg #[.int .i64 0, .slice none 0 0, .bool false, .int .i64 0], .agg #[.int .i64 0, .slice none 0 0, .bool false, .int .i64 0], .agg #[.int .i64 0, .int .i64 0, .int .i64 0], .int .i64 0], []⟩ 8 (by kernel_rfl) (by kernel_rfl) (by kernel_rfl) (by kernel_rfl)) ?_
  intro W base args ds gs before hval0 hW hcnd _
  have hval : ∀ (j : Nat) t v, Try.f4.params[j]? = some t → args[j]? = some v → Value.okWide Try.prog W .any base t v := hval0
  have hW' := hW
  obtain ⟨p, q, hA0, hV, rfl, hfz, hnd⟩ := hW
  have hA : DataW.TrodAll enc Try.prog W 0 (fun _ => true) true Try.f4.params.toList args.toList ds p := hA0
  rw [Try.params4] at hA hval
  obtain ⟨v0, vs0, d0, ds0, p0, q0, hargs, rfl, rfl, h0, r0⟩ := trodAll_cons hA
  obtain ⟨v1, vs1, d1, ds1, p1, q1, rfl, rfl, rfl, h1, r1⟩ := trodAll_cons r0
  obtain ⟨v2, vs2, d2, ds2, p2, q2, rfl, rfl, rfl, h2, r2⟩ := trodAll_cons r1
  obtain ⟨v3, vs3, d3, ds3, p3, q3, rfl, rfl, rfl, h3, r3⟩ := trodAll_cons r2
  obtain ⟨rfl, rfl, rfl⟩ := trodAll_nil r3
  obtain rfl : args = #[v0, v1, v2, v3] := by cases args; simp_all
  obtain ⟨rfl, rfl⟩ := trodVars_none hV
  have k0 := h0
  have lt0 : ∀ x ∈ p0, x.block < W.heap.size := by obtain ⟨m, hm⟩ := k0; exact DataW.trod_lt m _ _ _ hm
  obtain ⟨s0, w0⟩ := open_state (hval 0 24 v0 rfl rfl) h0
  have k1 := h1
  have lt1 : ∀ x ∈ p1, x.block < W.heap.size := by obtain ⟨m, hm⟩ := k1; exact DataW.trod_lt m _ _ _ hm
  obtain ⟨s1, w1⟩ := open_state (hval 1 24 v1 rfl rfl) h1
  have lt2 : ∀ x ∈ p2, x.block < W.heap.size := by obtain ⟨m, hm⟩ := h2; exact DataW.trod_lt m _ _ _ hm
  obtain ⟨s2, e2, w2⟩ := open_op (hval 2 26 v2 rfl rfl) h2
  subst e2
  have k2 := h2
  obtain ⟨a3, rfl, rfl, rfl, w3⟩ := open_int Try.underlying3 (hval 3 3 v3 rfl rfl) h3
  clear hA0 hval0
  refine (walk _ s0 _ s1 s2 a3 W w0 w1 w2 w3).mono fun e W' ⟨he, bel⟩ => ?_
  subst he
  exact ⟨_, rfl, _, _, _, [], _, [], hW', trodAll_mk1 (shut_bool Try.underlying4 _), (trodAll_cons_mk (Below.trod laidOut (by kernel_rfl) (of_decide_eq_true (by kernel_rfl)) k0 bel lt0) (trodAll_cons_mk (Below.trod laidOut (by kernel_rfl) (of_decide_eq_true (by kernel_rfl)) k1 bel lt1) (trodAll_cons_mk (Below.trod laidOut (by kernel_rfl) (of_decide_eq_true (by kernel_rfl)) k2 bel lt2) (trodAll_cons_mk (shut_int Try.underlying3 w3) trodAll_mk0)))), rfl, bel.frame _, fun h => by cases h⟩

theorem over : Rows.objsMayRow.holds Try.pinned (OpenSpec.ofChange Rows.objsMaySpec) :=
  OpenClaim.holds_of_wide 4 Try.f4 rfl rfl rfl rfl rfl rfl rfl ⟨rfl, rfl, rfl, rfl, rfl⟩ rfl rfl rfl rfl rfl (by kernel_rfl) Try.func4 (by kernel_rfl)
    (of_decide_eq_true (by kernel_rfl)) (by unfold Func.isWrapper; first | (rw [if_pos (by decide +kernel)]; kernel_rfl) | (rw [if_neg (by decide +kernel)]; exact ⟨rfl, rfl⟩))
    (fun os started H enc _ => lifted os started H enc)

end Go.Proofs.Ytclankoffcfkfaa.objsMay
namespace Go.Proofs.Ytclankoffcfkfaa

theorem objsMay_holds : Rows.ObjsMaySaid := objsMay.over

end Go.Proofs.Ytclankoffcfkfaa
