/- Proved: for every two operations the law CodecApart answers true (and the call leaves all older memory as it was). No condition. -/
import Derived.Test.YtcaalklpjpefjaaCodecEq
import Derived.Test.YtcaalklpjpefjaaOpenObjs
import Derived.OpenShut
import Derived.ChangeOld
namespace Go.Proofs.Ytcaalklpjpefjaa.codecApart
open Go.ChangeShapes Go.WideShapes Go.ChangeAt Go.RowKit

theorem apart_plain {o p : Opn} (ho : FitsO o) (hp : FitsO p) (b : Bool) (hb : b = true ↔ o = p) : (((bs (putOpL p)).extract 0 (bs (putOpL o)).size).toList == (bs (putOpL o)).toList) = b := by
  rw [bs_take, bs_list, bs_size, Bool.eq_iff_iff, beq_iff_eq, hb]
  constructor
  · intro e
    refine putOp_apart ho hp (t := (putOpL p).drop (putOpL o).length) ?_
    conv => rhs; lhs; rw [← e]
    exact (List.take_append_drop _ _).symm
  · intro e
    rw [e, List.take_length]

theorem op_eq (c a b d e f : Int) : (c == d && a == e && b == f) = true ↔ (⟨c, a, b⟩ : Opn) = ⟨d, e, f⟩ := by
  simp [Opn.mk.injEq, and_assoc]

set_option maxRecDepth 100000 in
set_option maxHeartbeats 2000000 in
theorem walk (o p : Opn) (w : World) (_ : OpOk o) (_ : OpOk p) :
    Calls Try.prog 8 #[opV o, opV p] w fun e w' => e = .returned (.bool true) ∧ Below w.heap.size w w' := by
  have HA := hide (fun w => awake5_any w)
  have HB0 : Hid (∀ X Y, Below w.heap.size w ((w.alloc X).alloc Y)) := fun X Y => ((Below.refl _ _).alloc (Nat.le_refl _) X).alloc (by simp) Y
  have S1 : Hid (∀ X Y, ((w.alloc X).alloc Y).heap.size = w.heap.size + 1 + 1) := fun X Y => by simp
  have X1 : Hid (∀ cs Y, Bo ((w.alloc (.cells cs 24)).alloc Y) w.heap.size cs) := fun cs Y => (Below.heap_alloc _ _ _ (by simp)).trans (heap_alloc_new w _)
  have X2 : Hid (∀ X cs, Bo ((w.alloc X).alloc (.cells cs 24)) (w.heap.size + 1) cs) := fun X cs => by
    have h := heap_alloc_new (w.alloc X) (.cells cs 24)
    have e : (w.alloc X).heap.size = w.heap.size + 1 := by simp
    rw [e] at h
    exact h
  have HPUT : ∀ o : Opn, ∃ (er : Int) (P : List UInt8), ((er = 0 ∧ FitsO o ∧ P = putOpL o) ∨ er = 1) ∧ P.length ≤ 30 ∧
      Hid (∀ W, Calls Try.prog 10 #[.slice none 0 0, .agg #[.int .i64 o.code, .int .i64 o.a, .int .i64 o.b]] W fun e w' => ∃ v', e = .returned (.tuple #[v', .int .i64 er]) ∧ Rd w' v' P ∧ Below W.heap.size W w') := by
    intro o
    by_cases hf : FitsO o
    · refine ⟨0, putOpL o, .inl ⟨rfl, hf, rfl⟩, putOpL_length hf, fun W => ?_⟩
      have h := putOp_any (.slice none 0 0) [] o W (Rd.nil W) (by simp)
      unfold PutR at h
      rw [if_pos hf, if_pos hf, List.nil_append] at h
      exact h
    · refine ⟨1, [], .inr rfl, by simp, fun W => ?_⟩
      have h := putOp_any (.slice none 0 0) [] o W (Rd.nil W) (by simp)
      unfold PutR at h
      rw [if_neg hf, if_neg hf] at h
      exact h
  obtain ⟨er, P, hc1, hP, HP1⟩ := HPUT o
  obtain ⟨es, Q, hc2, hQ, HP2⟩ := HPUT p
  clear HPUT
  have HC1 := hide hc1
  have HC2 := hide hc2
  obtain ⟨oc, oa, ob⟩ := o
  obtain ⟨pc, pa, pb⟩ := p
  simp only at HP1 HP2
  clear hc1 hc2
  show Calls Try.prog _ #[.agg #[.int .i64 oc, .int .i64 oa, .int .i64 ob], .agg #[.int .i64 pc, .int .i64 pa, .int .i64 pb]] w _
  go_enter Try.func8, Try.ntmps8
  go_wp2_with fail
  refine (HA.out _).mono ?_
  rintro e W1 ⟨rfl, hb1⟩
  have HO1 := hide ((X1.out _ _).below hb1 (Nat.le_refl _))
  have HQ1 := hide ((X2.out _ _).below hb1 (Nat.le_refl _))
  have HB1 := hide ((HB0.out _ _).trans (hb1.mono (by rw [S1.out]; omega)))
  clear hb1 HA X1 X2 HB0 S1
  obtain ⟨q0, -⟩ := HO1.out.cell 0
  obtain ⟨q1, -⟩ := HO1.out.cell 1
  obtain ⟨q2, -⟩ := HO1.out.cell 2
  go_wp2_with fail
  refine (HP1.out _).mono ?_
  rintro e W2 ⟨v2, rfl, hr2, hb2⟩
  have HR2 := hide hr2
  have HO2 := hide (HO1.out.below hb2 (Nat.le_refl _))
  have HQ2 := hide (HQ1.out.below hb2 (Nat.le_refl _))
  have HB2 := hide (HB1.out.trans (hb2.mono HB1.out.size))
  clear hb2 hr2 HO1 HQ1 HB1 q0 q1 q2 HP1
  obtain ⟨q0, -⟩ := HQ2.out.cell 0
  obtain ⟨q1, -⟩ := HQ2.out.cell 1
  obtain ⟨q2, -⟩ := HQ2.out.cell 2
  go_wp2_with fail
  refine (HP2.out _).mono ?_
  rintro e W3 ⟨v3, rfl, hr3, hb3⟩
  have cP : (convert 22 9 v2).run Try.prog W3 = .ok (.string (bs P)) W3 := (HR2.out.below hb3 (Nat.le_refl _)).str
  have cQ : (convert 22 9 v3).run Try.prog W3 = .ok (.string (bs Q)) W3 := hr3.str
  have HO3 := hide (HO2.out.below hb3 (Nat.le_refl _))
  have HQ3 := hide (HQ2.out.below hb3 (Nat.le_refl _))
  have HB3 := hide (HB2.out.trans (hb3.mono HB2.out.size))
  clear hb3 hr3 HR2 HO2 HQ2 HB2 q0 q1 q2 HP2
  rcases HC1.out with ⟨rfl, hf1, rfl⟩ | rfl
  case inr =>
    go_wp2
    go_ret
    exact ⟨rfl, HB3.out⟩
  rcases HC2.out with ⟨rfl, hf2, rfl⟩ | rfl
  case inr =>
    go_wp2
    go_ret
    exact ⟨rfl, HB3.out⟩
  obtain ⟨bb, hbb⟩ : ∃ bb : Bool, bb = (oc == pc && oa == pa && ob == pb) := ⟨_, rfl⟩
  have hb1 : bb = true ↔ (⟨oc, oa, ob⟩ : Opn) = ⟨pc, pa, pb⟩ := by rw [hbb]; exact op_eq ..
  have h1 := apart_plain hf1 hf2 bb hb1
  have h2 := apart_plain hf2 hf1 bb (hb1.trans eq_comm)
  have HE : Hid (∀ W, (binOp .eql 24 (.agg #[.int .i64 oc, .int .i64 oa, .int .i64 ob]) (.agg #[.int .i64 pc, .int .i64 pa, .int .i64 pb])).run Try.prog W = .ok (.bool bb) W) := fun W => by
    have h := eql_op W oc oa ob pc pa pb
    rw [← hbb] at h
    exact h
  have hgd := guard_op
  clear HC1 HC2 hf1 hf2 hb1 hbb hP hQ
  generalize putOpL ⟨oc, oa, ob⟩ = P at *
  generalize putOpL ⟨pc, pa, pb⟩ = Q at *
  have hz1 := bs_size P
  have hz2 := bs_size Q
  have HZ1 := hide hz1
  have HZ2 := hide hz2
  clear hz1 hz2
  obtain ⟨q0, -⟩ := HO3.out.cell 0
  obtain ⟨q1, -⟩ := HO3.out.cell 1
  obtain ⟨q2, -⟩ := HO3.out.cell 2
  obtain ⟨q3, -⟩ := HQ3.out.cell 0
  obtain ⟨q4, -⟩ := HQ3.out.cell 1
  obtain ⟨q5, -⟩ := HQ3.out.cell 2
  have he := HE.out
  by_cases hlt : ((bs Q).size : Int) < ((bs P).size : Int)
  · go_upto_region 11 with fail
    go_quiet (fail)
    go_wp2
    go_ret
    exact ⟨rfl, below_drewN HB3.out _⟩
  · have hle : ((bs P).size : Int) ≤ ((bs Q).size : Int) := by omega
    go_upto_region 11 with fail
    go_quiet (fail)
    go_wp2
    go_ret
    exact ⟨rfl, below_drewN HB3.out _⟩

theorem own : ownKnob Try.prog.godebug = none := by kernel_rfl
theorem laidOut : laidOutB Try.prog = true := by kernel_rfl

set_option linter.unusedVariables false in
set_option maxRecDepth 100000 in
theorem lifted (os : Os) (started : os.Started) (H : Type) (enc : TypeId × Value → H) :
    ReturnsInHanded {} Try.checked os 8 .any (Rows.codecApartSpec.pre6 enc Try.prog Try.f8 Rows.codecApartRow.domain false) (Rows.codecApartSpec.post enc Try.prog Try.f8 false true false false) := by
  refine returnsInHanded_of_change (C := Try.checked) own started (by kernel_rfl) Try.func8
    (ChangeSpec.witness6 (enc := enc) (C := Try.checked) false ⟨#[], #[.agg #[.int .i64 0, .int .i64 0, .int .i64 0], .agg #[.int .i64 0, .int .i64 0, .int .i64 0]], []⟩ 8 (by kernel_rfl) (by kernel_rfl) (by kernel_rfl) (by kernel_rfl)) ?_
  intro W base args ds gs before hval0 hW hcnd _
  have hval : ∀ (j : Nat) t v, Try.f8.params[j]? = some t → args[j]? = some v → Value.okWide Try.prog W .any base t v := hval0
  have hW' := hW
  obtain ⟨p, q, hA0, hV, rfl, hfz, hnd⟩ := hW
  have hA : DataW.TrodAll enc Try.prog W 0 (fun _ => true) true Try.f8.params.toList args.toList ds p := hA0
  rw [Try.params8] at hA hval
  obtain ⟨v0, vs0, d0, ds0, p0, q0, hargs, rfl, rfl, h0, r0⟩ := trodAll_cons hA
  obtain ⟨v1, vs1, d1, ds1, p1, q1, rfl, rfl, rfl, h1, r1⟩ := trodAll_cons r0
  obtain ⟨rfl, rfl, rfl⟩ := trodAll_nil r1
  obtain rfl : args = #[v0, v1] := by cases args; simp_all
  obtain ⟨rfl, rfl⟩ := trodVars_none hV
  have lt0 : ∀ x ∈ p0, x.block < W.heap.size := by obtain ⟨m, hm⟩ := h0; exact DataW.trod_lt m _ _ _ hm
  obtain ⟨s0, e0, w0⟩ := open_op (hval 0 24 v0 rfl rfl) h0
  subst e0
  have k0 := h0
  have lt1 : ∀ x ∈ p1, x.block < W.heap.size := by obtain ⟨m, hm⟩ := h1; exact DataW.trod_lt m _ _ _ hm
  obtain ⟨s1, e1, w1⟩ := open_op (hval 1 24 v1 rfl rfl) h1
  subst e1
  have k1 := h1
  clear hA0 hval0
  refine (walk s0 s1 W w0 w1).mono fun e W' ⟨he, bel⟩ => ?_
  subst he
  exact ⟨_, rfl, _, _, _, [], _, [], hW', trodAll_mk1 (shut_bool Try.underlying4 _), (trodAll_cons_mk (Below.trod laidOut (by kernel_rfl) (of_decide_eq_true (by kernel_rfl)) k0 bel lt0) (trodAll_cons_mk (Below.trod laidOut (by kernel_rfl) (of_decide_eq_true (by kernel_rfl)) k1 bel lt1) trodAll_mk0)), rfl, bel.frame _, fun h => by cases h⟩

theorem over : Rows.codecApartRow.holds Try.pinned (OpenSpec.ofChange Rows.codecApartSpec) :=
  OpenClaim.holds_of_wide 8 Try.f8 rfl rfl rfl rfl rfl rfl rfl ⟨rfl, rfl, rfl, rfl, rfl⟩ rfl rfl rfl rfl rfl (by kernel_rfl) Try.func8 (by kernel_rfl)
    (of_decide_eq_true (by kernel_rfl)) (by unfold Func.isWrapper; first | (rw [if_pos (by decide +kernel)]; kernel_rfl) | (rw [if_neg (by decide +kernel)]; exact ⟨rfl, rfl⟩))
    (fun os started H enc _ => lifted os started H enc)

end Go.Proofs.Ytcaalklpjpefjaa.codecApart
namespace Go.Proofs.Ytcaalklpjpefjaa

theorem codecApart_holds : Rows.CodecApartSaid := codecApart.over

end Go.Proofs.Ytcaalklpjpefjaa
