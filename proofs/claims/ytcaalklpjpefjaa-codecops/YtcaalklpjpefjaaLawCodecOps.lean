/- Proved: for all bytes and operations the law CodecOps answers true (and the call leaves all older memory as it was). No condition. -/
import Derived.Test.YtcaalklpjpefjaaCodecEq
import Derived.Test.YtcaalklpjpefjaaOpenObjs
import Derived.OpenShut
import Derived.ChangeOld
namespace Go.Proofs.Ytcaalklpjpefjaa.codecOps
open Go.ChangeShapes Go.WideShapes Go.ChangeAt Go.RowKit

set_option maxRecDepth 100000 in
set_option maxHeartbeats 2000000 in
theorem walk (v : Value) (l : List UInt8) (o : Opn) (w : World) (hr : Rd w v l) (_ : OpOk o) :
    Calls Try.prog 3 #[v, opV o] w fun e w' => e = .returned (.bool true) ∧ Below w.heap.size w w' := by
  have HA := hide (fun w => awake5_any w)
  have HR := hide hr
  obtain ⟨ao, cap, rfl, hlc, hcm, -⟩ := hr
  have hml : (l.length : Int) ≤ 9223372036854775807 := by unfold maxLen at hcm; omega
  obtain ⟨code, a, b⟩ := o
  have HB0 : Hid (∀ X, Below w.heap.size w (w.alloc X)) := fun X => (Below.refl _ _).alloc (Nat.le_refl _) X
  have S1 : Hid (∀ X, (w.alloc X).heap.size = w.heap.size + 1) := fun X => by simp
  clear hlc hcm
  show Calls Try.prog _ #[_, .agg #[.int .i64 code, .int .i64 a, .int .i64 b]] w _
  go_enter Try.func3, Try.ntmps3
  go_wp2_with fail
  refine (HA.out _).mono ?_
  rintro e W1 ⟨rfl, hb1⟩
  rw [S1.out] at hb1
  have hx1 : Bo W1 w.heap.size _ := (hb1.block w.heap.size (by omega)).trans (heap_alloc_new w _)
  have HX1 := hide hx1
  have HB1 := hide ((HB0.out _).trans (hb1.mono (by omega)))
  have hs1 := hb1.size
  rw [S1.out] at hs1
  clear hb1 hx1 HA
  by_cases hl : (l.length : Int) ≤ 1000
  · have hl' : ¬ (1000 < (l.length : Int)) := by omega
    have HP : Hid (∀ v1 W, Rd W v1 l → Calls Try.prog 10 #[v1, .agg #[.int .i64 code, .int .i64 a, .int .i64 b]] W fun e w' => PutR W l ⟨code, a, b⟩ e w') := fun v1 W h => putOp_any v1 l ⟨code, a, b⟩ W h (by omega)
    have HRP : Hid (∀ v1 W, Rd W v1 l → Calls Try.prog 11 #[v1, .agg #[.int .i64 code, .int .i64 a, .int .i64 b]] W fun e w' => PutR W l ⟨code, a, b⟩ e w') := fun v1 W h => (refPutOp_any v1 l ⟨code, a, b⟩ W h (by omega)).mono (by
      rintro e w' ⟨v', h1, h2, h3⟩
      exact ⟨v', h1, h2.rd, h3⟩)
    have HG : Hid (∀ W, Rd W (.slice ao l.length cap) l → Calls Try.prog 12 #[.slice ao l.length cap] W fun e w' => Gotten W l e w') := fun W h => getOp_any _ l W h (by omega)
    have HRG : Hid (∀ W, Rd W (.slice ao l.length cap) l → Calls Try.prog 13 #[.slice ao l.length cap] W fun e w' => Gotten W l e w') := fun W h => refGetOp_any _ l W h
    unfold PutR at HP HRP
    unfold Gotten at HG HRG
    generalize (if FitsO ⟨code, a, b⟩ then (0 : Int) else 1) = er at *
    generalize (if FitsO ⟨code, a, b⟩ then l ++ putOpL ⟨code, a, b⟩ else l) = L at *
    generalize (getOpL l).2 = k at *
    obtain ⟨⟨gc, ga, gb⟩, hg⟩ : ∃ o, o = (getOpL l).1 := ⟨_, rfl⟩
    rw [← hg] at HG HRG
    clear hg
    have HG' : Hid (∀ W, Rd W (.slice ao l.length cap) l → Calls Try.prog 12 #[.slice ao l.length cap] W fun e w' => e = .returned (.tuple #[.agg #[.int .i64 gc, .int .i64 ga, .int .i64 gb], .int .i64 (k : Int)]) ∧ Below W.heap.size W w') := HG.out
    have HRG' : Hid (∀ W, Rd W (.slice ao l.length cap) l → Calls Try.prog 13 #[.slice ao l.length cap] W fun e w' => e = .returned (.tuple #[.agg #[.int .i64 gc, .int .i64 ga, .int .i64 gb], .int .i64 (k : Int)]) ∧ Below W.heap.size W w') := HRG.out
    clear HG HRG
    obtain ⟨p0, -⟩ := HX1.out.cell 0
    obtain ⟨p1, -⟩ := HX1.out.cell 1
    obtain ⟨p2, -⟩ := HX1.out.cell 2
    go_upto_region 4 with fail
    go_cut [6, 7] (fun x y wc => ∃ v2, x = v2 ∧ y = .int .i64 er ∧ Hid (Rd wc v2 L) ∧ Hid (Bo wc w.heap.size #[.int .i64 code, .int .i64 a, .int .i64 b]) ∧ Hid (Below w.heap.size w wc))
    case first =>
      go_region_law (first
        | (refine step_append_rd (by rfl) _ _ (by rfl) W1.heap.size _ [] (by rfl) (Own.nil _ _) _ l (by rfl) (HR.out.below HB1.out.drew (Nat.le_refl _)) (by simp; omega) (Nat.le_refl _) ?_; intro v2 W2 ho2 hb2; have HR2 := hide ho2.rd; have HX2 := hide (HX1.out.below (((Below.refl W1.heap.size W1).drew).trans hb2) (Nat.le_refl _)); have HB2 := hide (HB1.out.drew.trans (hb2.mono HB1.out.size)); clear ho2 hb2; obtain ⟨p0', -⟩ := HX2.out.cell 0; obtain ⟨p1', -⟩ := HX2.out.cell 1; obtain ⟨p2', -⟩ := HX2.out.cell 2)
        | (go_simp; go_wp2_with (first | (go_at_call 10; refine (HP.out _ _ HR2.out).mono ?_; rintro e W3 ⟨v3, rfl, hr3, hb3⟩; have HR3 := hide hr3; have HX3 := hide (HX2.out.below hb3 (Nat.le_refl _)); have HB3 := hide (HB2.out.trans (hb3.mono HB2.out.size)); clear hr3 hb3))))
      all_goals (go_wp2_with fail; go_meet; exact ⟨_, rfl, rfl, HR3, HX3, HB3⟩)
    case rest =>
      obtain ⟨_, rfl, rfl, HR2, HX2, HB2⟩ := hcut
      have HS2 := hide HB2.out.size
      obtain ⟨q0, -⟩ := HX2.out.cell 0
      obtain ⟨q1, -⟩ := HX2.out.cell 1
      obtain ⟨q2, -⟩ := HX2.out.cell 2
      clear HP HX1 HB1 p0 p1 p2
      go_wp2_with fail
      refine (HRP.out _ _ (HR.out.below HB2.out (Nat.le_refl _))).mono ?_
      rintro e W4 ⟨v4, rfl, hr4, hb4⟩
      have HR4 := hide hr4
      have HR24 := hide (HR2.out.below hb4 (Nat.le_refl _))
      have HB4 := hide (HB2.out.trans (hb4.mono HB2.out.size))
      clear hr4 hb4 HR2 HX2 HB2 q0 q1 q2
      go_wp2_with fail
      refine (HG'.out _ (HR.out.below HB4.out (Nat.le_refl _))).mono ?_
      rintro e W5 ⟨rfl, hb5⟩
      have HR5 := hide (HR4.out.below hb5 (Nat.le_refl _))
      have HR25 := hide (HR24.out.below hb5 (Nat.le_refl _))
      have HB5 := hide (HB4.out.trans (hb5.mono HB4.out.size))
      clear hb5 HR4 HR24 HB4
      have HA5 : Hid (∀ X, Below W5.heap.size W5 (W5.alloc X)) := fun X => (Below.refl _ _).alloc (Nat.le_refl _) X
      have HBA : Hid (∀ X, Below w.heap.size w (W5.alloc X)) := fun X => HB5.out.trans ((HA5.out X).mono HB5.out.size)
      go_wp2_with fail
      refine (HRG'.out _ (HR.out.below (HBA.out _) (Nat.le_refl _))).mono ?_
      rintro e W6 ⟨rfl, hb6⟩
      have hx6 : Bo W6 W5.heap.size _ := (hb6.block W5.heap.size (by simp)).trans (heap_alloc_new W5 _)
      have hb56 := (HA5.out _).trans (hb6.mono (HA5.out _).size)
      have HB6 := hide (HB5.out.trans (hb56.mono HB5.out.size))
      have HA6 : Hid (∀ X, Below w.heap.size w (W6.alloc X)) := fun X => HB6.out.alloc HB6.out.size X
      have c1 : ∀ X, (convert 22 9 u6).run Try.prog (W6.alloc X) = .ok (.string (bs L)) (W6.alloc X) := fun X => ((HR25.out.below hb56 (Nat.le_refl _)).below ((Below.refl _ _).alloc (Nat.le_refl _) X) (Nat.le_refl _)).str
      have c2 : ∀ X, (convert 22 9 v4).run Try.prog (W6.alloc X) = .ok (.string (bs L)) (W6.alloc X) := fun X => ((HR5.out.below hb56 (Nat.le_refl _)).below ((Below.refl _ _).alloc (Nat.le_refl _) X) (Nat.le_refl _)).str
      obtain ⟨q0, -⟩ := hx6.cell 0
      obtain ⟨q1, -⟩ := hx6.cell 1
      obtain ⟨q2, -⟩ := hx6.cell 2
      have l6 := hx6.lt
      have hq := fun w => eql_op w gc ga gb gc ga gb
      simp only [beq_self_eq_true, Bool.and_self] at hq
      have hgd := guard_op
      clear hb6 hx6 hb56 HR5 HR25 HB5 HBA HA5 HG' HRG' HRP
      go_wp2
      go_ret
      exact ⟨rfl, HA6.out _⟩
  · have hl' : 1000 < (l.length : Int) := by omega
    go_wp2
    go_ret
    exact ⟨rfl, HB1.out⟩

theorem own : ownKnob Try.prog.godebug = none := by kernel_rfl
theorem laidOut : laidOutB Try.prog = true := by kernel_rfl

set_option linter.unusedVariables false in
set_option maxRecDepth 100000 in
theorem lifted (os : Os) (started : os.Started) (H : Type) (enc : TypeId × Value → H) :
    ReturnsInHanded {} Try.checked os 3 .any (Rows.codecOpsSpec.pre6 enc Try.prog Try.f3 Rows.codecOpsRow.domain false) (Rows.codecOpsSpec.post enc Try.prog Try.f3 false true false false) := by
  refine returnsInHanded_of_change (C := Try.checked) own started (by kernel_rfl) Try.func3
    (ChangeSpec.witness6 (enc := enc) (C := Try.checked) false ⟨#[], #[.slice none 0 0, .agg #[.int .i64 0, .int .i64 0, .int .i64 0]], []⟩ 8 (by kernel_rfl) (by kernel_rfl) (by kernel_rfl) (by kernel_rfl)) ?_
  intro W base args ds gs before hval0 hW hcnd _
  have hval : ∀ (j : Nat) t v, Try.f3.params[j]? = some t → args[j]? = some v → Value.okWide Try.prog W .any base t v := hval0
  have hW' := hW
  obtain ⟨p, q, hA0, hV, rfl, hfz, hnd⟩ := hW
  have hA : DataW.TrodAll enc Try.prog W 0 (fun _ => true) true Try.f3.params.toList args.toList ds p := hA0
  rw [Try.params3] at hA hval
  obtain ⟨v0, vs0, d0, ds0, p0, q0, hargs, rfl, rfl, h0, r0⟩ := trodAll_cons hA
  obtain ⟨v1, vs1, d1, ds1, p1, q1, rfl, rfl, rfl, h1, r1⟩ := trodAll_cons r0
  obtain ⟨rfl, rfl, rfl⟩ := trodAll_nil r1
  obtain rfl : args = #[v0, v1] := by cases args; simp_all
  obtain ⟨rfl, rfl⟩ := trodVars_none hV
  obtain ⟨a0, len0, cap0, rfl⟩ := okWide_slice Try.underlying22 (hval 0 22 v0 rfl rfl)
  have k0 := h0
  have lt0 : ∀ x ∈ p0, x.block < W.heap.size := by obtain ⟨m, hm⟩ := k0; exact DataW.trod_lt m _ _ _ hm
  obtain ⟨l0, w0⟩ : ∃ l, Rd W (.slice a0 len0 cap0) l := by
    obtain ⟨fuel, hf⟩ := h0
    rcases open_ints Try.underlying22 Try.underlying5 (by kernel_rfl) hf with ⟨hcs, _⟩ | ⟨x, l, c, zs, hcs, _, hl, hm, hz, _, hcell, hwz⟩
    · simp [Value.cells] at hcs
      obtain ⟨rfl, rfl, rfl⟩ := hcs
      exact ⟨[], Rd.nil _⟩
    · simp [Value.cells] at hcs
      obtain ⟨rfl, rfl, rfl⟩ := hcs
      exact ⟨_, Rd.ofRow hl hm (by simpa using hz) hcell hwz⟩
  have lt1 : ∀ x ∈ p1, x.block < W.heap.size := by obtain ⟨m, hm⟩ := h1; exact DataW.trod_lt m _ _ _ hm
  obtain ⟨s1, e1, w1⟩ := open_op (hval 1 24 v1 rfl rfl) h1
  subst e1
  have k1 := h1
  clear hA0 hval0
  refine (walk _ l0 s1 W w0 w1).mono fun e W' ⟨he, bel⟩ => ?_
  subst he
  exact ⟨_, rfl, _, _, _, [], _, [], hW', trodAll_mk1 (shut_bool Try.underlying4 _), (trodAll_cons_mk (Below.trod laidOut (by kernel_rfl) (of_decide_eq_true (by kernel_rfl)) k0 bel lt0) (trodAll_cons_mk (Below.trod laidOut (by kernel_rfl) (of_decide_eq_true (by kernel_rfl)) k1 bel lt1) trodAll_mk0)), rfl, bel.frame _, fun h => by cases h⟩

theorem over : Rows.codecOpsRow.holds Try.pinned (OpenSpec.ofChange Rows.codecOpsSpec) :=
  OpenClaim.holds_of_wide 3 Try.f3 rfl rfl rfl rfl rfl rfl rfl ⟨rfl, rfl, rfl, rfl, rfl⟩ rfl rfl rfl rfl rfl (by kernel_rfl) Try.func3 (by kernel_rfl)
    (of_decide_eq_true (by kernel_rfl)) (by unfold Func.isWrapper; first | (rw [if_pos (by decide +kernel)]; kernel_rfl) | (rw [if_neg (by decide +kernel)]; exact ⟨rfl, rfl⟩))
    (fun os started H enc _ => lifted os started H enc)

end Go.Proofs.Ytcaalklpjpefjaa.codecOps
namespace Go.Proofs.Ytcaalklpjpefjaa

theorem codecOps_holds : Rows.CodecOpsSaid := codecOps.over

end Go.Proofs.Ytcaalklpjpefjaa
