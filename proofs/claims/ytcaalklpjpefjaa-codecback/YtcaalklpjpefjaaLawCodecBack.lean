/- Proved: for all operations, states and bytes the law CodecBack answers true (and the call leaves all older memory as it was). No condition. -/
import Derived.Test.YtcaalklpjpefjaaCodecEq
import Derived.Test.YtcaalklpjpefjaaOpenObjs
import Derived.Test.YtcaalklpjpefjaaObjsFew
import Derived.OpenShut
import Derived.ChangeOld
namespace Go.Proofs.Ytcaalklpjpefjaa.codecBack
open Go.ChangeShapes Go.WideShapes Go.ChangeAt Go.RowKit

set_option maxRecDepth 100000 in
set_option maxHeartbeats 4000000 in
theorem walk (o : Opn) (v : Value) (s : St) (vb : Value) (M : List UInt8) (w : World) (_ : OpOk o) (hs : StV w v s) (hr : Rd w vb M) :
    Calls Try.prog 5 #[opV o, v, vb] w fun e w' => e = .returned (.bool true) ∧ Below w.heap.size w w' := by
  have HA := hide (fun w => awake5_any w)
  have HFW := hide (fun w h => few_any v s w h)
  have HSV := hide hs
  have HR := hide hr
  obtain ⟨vl, rfl, -, -, -⟩ := hs
  obtain ⟨ao, cap, rfl, hlc, hcm, -⟩ := hr
  have hml : (M.length : Int) ≤ 9223372036854775807 := by unfold maxLen at hcm; omega
  clear hlc hcm
  have HB0 : Hid (∀ X Y, Below w.heap.size w ((w.alloc X).alloc Y)) := fun X Y => ((Below.refl _ _).alloc (Nat.le_refl _) X).alloc (by simp) Y
  have S1 : Hid (∀ X Y, ((w.alloc X).alloc Y).heap.size = w.heap.size + 1 + 1) := fun X Y => by simp
  have X1 : Hid (∀ cs Y, Bo ((w.alloc (.cells cs 24)).alloc Y) w.heap.size cs) := fun cs Y => (Below.heap_alloc _ _ _ (by simp)).trans (heap_alloc_new w _)
  have X2 : Hid (∀ X cs, Bx ((w.alloc X).alloc (.cells cs 34)) (w.heap.size + 1) cs) := fun X cs => by
    have h := heap_alloc_new (w.alloc X) (.cells cs 34)
    have e : (w.alloc X).heap.size = w.heap.size + 1 := by simp
    rw [e] at h
    exact h
  by_cases hl : (s.L.length : Int) ≤ 300
  case neg =>
    rw [decide_eq_false hl] at HFW
    clear hl
    show Calls Try.prog _ #[.agg #[.int .i64 o.code, .int .i64 o.a, .int .i64 o.b], _, _] w _
    go_enter Try.func5, Try.ntmps5
    go_wp2_with fail
    refine (HA.out _).mono ?_
    rintro e W1 ⟨rfl, hb1⟩
    have HX1 := hide ((X2.out _ _).below hb1 (Nat.le_refl _))
    have HB1 := hide ((HB0.out _ _).trans (hb1.mono (by rw [S1.out]; omega)))
    clear hb1 HA X1 X2
    obtain ⟨q0, -⟩ := HX1.out.cell 0
    obtain ⟨q1, -⟩ := HX1.out.cell 1
    obtain ⟨q2, -⟩ := HX1.out.cell 2
    obtain ⟨q3, -⟩ := HX1.out.cell 3
    go_wp2_with fail
    refine (HFW.out _ (HSV.out.below HB1.out (Nat.le_refl _))).mono ?_
    rintro e W2 ⟨rfl, hb2⟩
    have HB2 := hide (HB1.out.trans (hb2.mono HB1.out.size))
    clear hb2 HX1 HB1 q0 q1 q2 q3
    go_wp2
    go_ret
    exact ⟨rfl, HB2.out⟩
  rw [decide_eq_true hl] at HFW
  by_cases hb : (M.length : Int) ≤ 100
  case neg =>
    have hb' : 100 < (M.length : Int) := by omega
    clear hb
    show Calls Try.prog _ #[.agg #[.int .i64 o.code, .int .i64 o.a, .int .i64 o.b], _, _] w _
    go_enter Try.func5, Try.ntmps5
    go_wp2_with fail
    refine (HA.out _).mono ?_
    rintro e W1 ⟨rfl, hb1⟩
    have HX1 := hide ((X2.out _ _).below hb1 (Nat.le_refl _))
    have HB1 := hide ((HB0.out _ _).trans (hb1.mono (by rw [S1.out]; omega)))
    clear hb1 HA X1 X2
    obtain ⟨q0, -⟩ := HX1.out.cell 0
    obtain ⟨q1, -⟩ := HX1.out.cell 1
    obtain ⟨q2, -⟩ := HX1.out.cell 2
    obtain ⟨q3, -⟩ := HX1.out.cell 3
    go_wp2_with fail
    refine (HFW.out _ (HSV.out.below HB1.out (Nat.le_refl _))).mono ?_
    rintro e W2 ⟨rfl, hb2⟩
    have HB2 := hide (HB1.out.trans (hb2.mono HB1.out.size))
    clear hb2 HX1 HB1 q0 q1 q2 q3
    go_wp2
    go_ret
    exact ⟨rfl, HB2.out⟩
  have hb' : ¬ (100 < (M.length : Int)) := by omega
  have HEN := hide (fun W v1 (h : StV W v1 s) => encodeState_any v1 s W h (by omega))
  unfold EncR at HEN
  obtain ⟨er, P, gc, ga, gb, k, hcond, hPL, HPO, HGO⟩ : ∃ (er : Int) (P : List UInt8) (gc ga gb k : Int), ((er = 0 ∧ gc = o.code ∧ ga = o.a ∧ gb = o.b ∧ k = P.length) ∨ (er = 1 ∧ P = [])) ∧ P.length ≤ 30 ∧
      Hid (∀ W, Calls Try.prog 10 #[.slice none 0 0, .agg #[.int .i64 o.code, .int .i64 o.a, .int .i64 o.b]] W fun e w' => ∃ v', e = .returned (.tuple #[v', .int .i64 er]) ∧ Rd w' v' P ∧ Below W.heap.size W w') ∧
      Hid (∀ v1 W, Rd W v1 (P ++ M) → Calls Try.prog 12 #[v1] W fun e w' => e = .returned (.tuple #[.agg #[.int .i64 gc, .int .i64 ga, .int .i64 gb], .int .i64 k]) ∧ Below W.heap.size W w') := by
    by_cases hf : FitsO o
    · have hpl := putOpL_length hf
      refine ⟨0, putOpL o, o.code, o.a, o.b, _, .inl ⟨rfl, rfl, rfl, rfl, rfl⟩, hpl, fun W => ?_, fun v1 W h => ?_⟩
      · have h := putOp_any (.slice none 0 0) [] o W (Rd.nil W) (by simp)
        unfold PutR at h
        rw [if_pos hf, if_pos hf, List.nil_append] at h
        exact h
      · have h := getOp_any v1 (putOpL o ++ M) W h (by rw [List.length_append]; omega)
        unfold Gotten at h
        rw [getOp_put o hf M] at h
        exact h
    · refine ⟨1, [], (getOpL ([] ++ M)).1.code, (getOpL ([] ++ M)).1.a, (getOpL ([] ++ M)).1.b, ((getOpL ([] ++ M)).2 : Nat), .inr ⟨rfl, rfl⟩, by simp, fun W => ?_, fun v1 W h => ?_⟩
      · have h := putOp_any (.slice none 0 0) [] o W (Rd.nil W) (by simp)
        unfold PutR at h
        rw [if_neg hf, if_neg hf] at h
        exact h
      · have h := getOp_any v1 ([] ++ M) W h (by rw [List.length_append]; simp; omega)
        unfold Gotten at h
        exact h
  obtain ⟨ek, E, DK, DL, DS, DG, de, hcs, HEN', HDE⟩ : ∃ (ek : Int) (E : List UInt8) (DK : Int) (DL : List Int) (DS : Bool) (DG : Int) (de : Int), ((ek = 0 ∧ s = ⟨DK, DL, DS, DG⟩ ∧ de = 0) ∨ (ek = 1 ∧ E = [])) ∧
      Hid (∀ W v1, StV W v1 s → Calls Try.prog 15 #[v1] W fun e w' => ∃ v', e = .returned (.tuple #[v', .int .i64 ek]) ∧ Rd w' v' E ∧ Below W.heap.size W w') ∧
      Hid (∀ v1 W, Rd W v1 E → Calls Try.prog 17 #[v1] W fun e w' => ∃ vl, e = .returned (.tuple #[.agg #[.int .i64 DK, vl, .bool DS, .int .i64 DG], .int .i64 de]) ∧ RdI w' vl DL ∧ I64 DK ∧ I64 DG ∧ Below W.heap.size W w') := by
    by_cases hm : MayS s
    · rw [if_pos hm, if_pos hm] at HEN
      refine ⟨0, encS s, s.kind, s.L, s.shut, s.eng, 0, .inl ⟨rfl, rfl, rfl⟩, HEN, fun v1 W h => ?_⟩
      have h := decodeState_any v1 (encS s) W h (by have := encS_length hm; omega)
      unfold Decoded at h
      rw [decS_enc hm] at h
      refine h.mono ?_
      rintro e w' ⟨vl, h1, h2, h3, h4, -, h5⟩
      exact ⟨vl, h1, h2, h3, h4, h5⟩
    · rw [if_neg hm, if_neg hm] at HEN
      refine ⟨1, [], (decS []).1.kind, (decS []).1.L, (decS []).1.shut, (decS []).1.eng, (decS []).2, .inr ⟨rfl, rfl⟩, HEN, fun v1 W h => ?_⟩
      have h := decodeState_any v1 [] W h (by simp)
      unfold Decoded at h
      refine h.mono ?_
      rintro e w' ⟨vl, h1, h2, h3, h4, -, h5⟩
      exact ⟨vl, h1, h2, h3, h4, h5⟩
  clear HEN
  have HSL : Hid (∀ W va vb c, StV W va c → StV W vb c → Calls Try.prog 19 #[va, vb] W fun e w' => e = .returned (.bool true) ∧ Below W.heap.size W w') := fun W va vb c h1 h2 => by
    have h := refSameS_any va c vb c W h1 h2
    rw [decide_eq_true (sameS_refl c)] at h
    exact h
  obtain ⟨code, a, b⟩ := o
  simp only at hcond HPO HGO
  have HN : Hid (∀ W, (binOp .neq 24 (.agg #[.int .i64 code, .int .i64 a, .int .i64 b]) (.agg #[.int .i64 code, .int .i64 a, .int .i64 b])).run Try.prog W = .ok (.bool false) W) := fun W => by
    have h := neq_op W code a b code a b
    simpa using h
  have HGD := hide guard_op
  have HC := hide hcond
  have HCS := hide hcs
  clear hcond hcs hl hb
  show Calls Try.prog _ #[.agg #[.int .i64 code, .int .i64 a, .int .i64 b], _, _] w _
  go_enter Try.func5, Try.ntmps5
  go_wp2_with fail
  refine (HA.out _).mono ?_
  rintro e W1 ⟨rfl, hb1⟩
  have HO1 := hide ((X1.out _ _).below hb1 (Nat.le_refl _))
  have HX1 := hide ((X2.out _ _).below hb1 (Nat.le_refl _))
  have HB1 := hide ((HB0.out _ _).trans (hb1.mono (by rw [S1.out]; omega)))
  clear hb1 HA X1 X2 HB0 S1
  obtain ⟨q0, -⟩ := HX1.out.cell 0
  obtain ⟨q1, -⟩ := HX1.out.cell 1
  obtain ⟨q2, -⟩ := HX1.out.cell 2
  obtain ⟨q3, -⟩ := HX1.out.cell 3
  go_wp2_with fail
  refine (HFW.out _ (HSV.out.below HB1.out (Nat.le_refl _))).mono ?_
  rintro e W2 ⟨rfl, hb2⟩
  have HO2 := hide (HO1.out.below hb2 (Nat.le_refl _))
  have HX2 := hide (HX1.out.below hb2 (Nat.le_refl _))
  have HB2 := hide (HB1.out.trans (hb2.mono HB1.out.size))
  clear hb2 HX1 HO1 HB1 q0 q1 q2 q3 HFW
  obtain ⟨q0, -⟩ := HO2.out.cell 0
  obtain ⟨q1, -⟩ := HO2.out.cell 1
  obtain ⟨q2, -⟩ := HO2.out.cell 2
  go_wp2_with fail
  refine (HPO.out _).mono ?_
  rintro e W3 ⟨v3, rfl, hr3, hb3⟩
  have HR3 := hide hr3
  obtain ⟨a3, c3, rfl, -⟩ := hr3
  have HO3 := hide (HO2.out.below hb3 (Nat.le_refl _))
  have HX3 := hide (HX2.out.below hb3 (Nat.le_refl _))
  have HB3 := hide (HB2.out.trans (hb3.mono HB2.out.size))
  clear hb3 HX2 HO2 HB2 q0 q1 q2 HPO
  go_wp2_with (at_builtin; refine wpList_append_rd _ rfl _ _ rfl W3.heap.size _ [] rfl (Own.nil _ _) _ P rfl HR3.out (by simp; omega) (Nat.le_refl _) ?_)
  intro v4 W4 ho4 hb4
  have hs4 := hb4.size
  go_wp2_with (at_builtin; refine wpList_append_rd _ rfl _ _ rfl W3.heap.size _ P rfl ho4 _ M rfl (HR.out.below (HB3.out.trans (hb4.mono HB3.out.size)) (Nat.le_refl _)) (by omega) hs4 ?_)
  intro v5 W5 ho5 hb5
  have HR5 := hide ho5.rd
  have hb35 := hb4.trans hb5
  have HR35 := hide (HR3.out.below hb35 (Nat.le_refl _))
  have HO5 := hide (HO3.out.below hb35 (Nat.le_refl _))
  have HX5 := hide (HX3.out.below hb35 (Nat.le_refl _))
  have HB5 := hide (HB3.out.trans (hb35.mono HB3.out.size))
  clear hb4 hb5 hb35 ho4 ho5 hs4 HR3 HX3 HO3 HB3
  go_wp2_with fail
  refine (HGO.out _ _ HR5.out).mono ?_
  rintro e W6 ⟨rfl, hb6⟩
  have HR6 := hide (HR35.out.below hb6 (Nat.le_refl _))
  have HO6 := hide (HO5.out.below hb6 (Nat.le_refl _))
  have HX6 := hide (HX5.out.below hb6 (Nat.le_refl _))
  have HB6 := hide (HB5.out.trans (hb6.mono HB5.out.size))
  clear hb6 HR5 HR35 HX5 HO5 HB5 HGO
  obtain ⟨q0, -⟩ := HO6.out.cell 0
  obtain ⟨q1, -⟩ := HO6.out.cell 1
  obtain ⟨q2, -⟩ := HO6.out.cell 2
  obtain ⟨q3, -⟩ := HX6.out.cell 0
  obtain ⟨q4, -⟩ := HX6.out.cell 1
  obtain ⟨q5, -⟩ := HX6.out.cell 2
  obtain ⟨q6, -⟩ := HX6.out.cell 3
  have l6 := HO6.out.lt
  have l7 := HX6.out.lt
  have HA6 : Hid (∀ X, Below W6.heap.size W6 (W6.alloc X)) := fun X => (Below.refl _ _).alloc (Nat.le_refl _) X
  have HBA : Hid (∀ X, Below w.heap.size w (W6.alloc X)) := fun X => HB6.out.trans ((HA6.out X).mono HB6.out.size)
  have hn := HN.out
  have hgd := HGD.out
  rcases HC.out with ⟨rfl, rfl, rfl, rfl, rfl⟩ | ⟨rfl, rfl⟩
  all_goals
    clear HC
    go_wp2_with fail
    refine (HEN'.out _ _ (HSV.out.below (HBA.out _) (Nat.le_refl _))).mono ?_
    rintro e W7 ⟨v7, rfl, hr7, hb7⟩
    have HR7 := hide hr7
    obtain ⟨a7, c7, rfl, -⟩ := hr7
    have hb67 := (HA6.out _).trans (hb7.mono (HA6.out _).size)
    have HX7 := hide (HX6.out.below hb67 (Nat.le_refl _))
    have HB7 := hide (HB6.out.trans (hb67.mono HB6.out.size))
    clear hb7 hb67 HX6 HO6 HB6 HBA HA6 HR6 q0 q1 q2 q3 q4 q5 q6 l6 l7 HEN'
    go_wp2_with fail
    refine (HDE.out _ _ HR7.out).mono ?_
    rintro e W8 ⟨v8, rfl, hr8, hk8, hg8, hb8⟩
    have HK8 := hide hk8
    have HG8 := hide hg8
    have HI8 := hide hr8
    obtain ⟨a8, c8, rfl, -⟩ := hr8
    have HX8 := hide (HX7.out.below hb8 (Nat.le_refl _))
    have HB8 := hide (HB7.out.trans (hb8.mono HB7.out.size))
    have HA8 : Hid (∀ X, Below W8.heap.size W8 (W8.alloc X)) := fun X => (Below.refl _ _).alloc (Nat.le_refl _) X
    have HBB : Hid (∀ X, Below w.heap.size w (W8.alloc X)) := fun X => HB8.out.trans ((HA8.out X).mono HB8.out.size)
    clear hb8 hk8 hg8 HR7 HX7 HB7 HDE
    rcases HCS.out with ⟨rfl, rfl, rfl⟩ | ⟨rfl, rfl⟩
    · clear HCS
      obtain ⟨q3, -⟩ := HX8.out.cell 0
      obtain ⟨q4, -⟩ := HX8.out.cell 1
      obtain ⟨q5, -⟩ := HX8.out.cell 2
      obtain ⟨q6, -⟩ := HX8.out.cell 3
      have l7 := HX8.out.lt
      go_wp2_with fail
      refine (HSL.out _ _ _ ⟨DK, DL, DS, DG⟩ ⟨_, rfl, HI8.out.below (HA8.out _) (Nat.le_refl _), HK8.out, HG8.out⟩ (HSV.out.below (HBB.out _) (Nat.le_refl _))).mono ?_
      rintro e W9 ⟨rfl, hb9⟩
      have HB9 := hide ((HBB.out _).trans (hb9.mono (HBB.out _).size))
      clear hb9 HX8 HB8 HBB HA8 q3 q4 q5 q6 l7
      go_wp2
      go_ret
      exact ⟨rfl, HB9.out⟩
    · clear HCS
      go_wp2
      go_ret
      exact ⟨rfl, HBB.out _⟩

theorem own : ownKnob Try.prog.godebug = none := by kernel_rfl
theorem laidOut : laidOutB Try.prog = true := by kernel_rfl

set_option linter.unusedVariables false in
set_option maxRecDepth 100000 in
theorem lifted (os : Os) (started : os.Started) (H : Type) (enc : TypeId × Value → H) :
    ReturnsInHanded {} Try.checked os 5 .any (Rows.codecBackSpec.pre6 enc Try.prog Try.f5 Rows.codecBackRow.domain false) (Rows.codecBackSpec.post enc Try.prog Try.f5 false true false false) := by
  refine returnsInHanded_of_change (C := Try.checked) own started (by kernel_rfl) Try.func5
    (ChangeSpec.witness6 (enc := enc) (C := Try.checked) false ⟨#[], #[.agg #[.int .i64 0, .int .i64 0, .int .i64 0], .agg #[.int .i64 0, .slice none 0 0, .bool false, .int .i64 0], .slice none 0 0], []⟩ 8 (by kernel_rfl) (by kernel_rfl) (by kernel_rfl) (by kernel_rfl)) ?_
  intro W base args ds gs before hval0 hW hcnd _
  have hval : ∀ (j : Nat) t v, Try.f5.params[j]? = some t → args[j]? = some v → Value.okWide Try.prog W .any base t v := hval0
  have hW' := hW
  obtain ⟨p, q, hA0, hV, rfl, hfz, hnd⟩ := hW
  have hA : DataW.TrodAll enc Try.prog W 0 (fun _ => true) true Try.f5.params.toList args.toList ds p := hA0
  rw [Try.params5] at hA hval
  obtain ⟨v0, vs0, d0, ds0, p0, q0, hargs, rfl, rfl, h0, r0⟩ := trodAll_cons hA
  obtain ⟨v1, vs1, d1, ds1, p1, q1, rfl, rfl, rfl, h1, r1⟩ := trodAll_cons r0
  obtain ⟨v2, vs2, d2, ds2, p2, q2, rfl, rfl, rfl, h2, r2⟩ := trodAll_cons r1
  obtain ⟨rfl, rfl, rfl⟩ := trodAll_nil r2
  obtain rfl : args = #[v0, v1, v2] := by cases args; simp_all
  obtain ⟨rfl, rfl⟩ := trodVars_none hV
  have lt0 : ∀ x ∈ p0, x.block < W.heap.size := by obtain ⟨m, hm⟩ := h0; exact DataW.trod_lt m _ _ _ hm
  obtain ⟨s0, e0, w0⟩ := open_op (hval 0 24 v0 rfl rfl) h0
  subst e0
  have k0 := h0
  have k1 := h1
  have lt1 : ∀ x ∈ p1, x.block < W.heap.size := by obtain ⟨m, hm⟩ := k1; exact DataW.trod_lt m _ _ _ hm
  obtain ⟨s1, w1⟩ := open_state (hval 1 34 v1 rfl rfl) h1
  obtain ⟨a2, len2, cap2, rfl⟩ := okWide_slice Try.underlying22 (hval 2 22 v2 rfl rfl)
  have k2 := h2
  have lt2 : ∀ x ∈ p2, x.block < W.heap.size := by obtain ⟨m, hm⟩ := k2; exact DataW.trod_lt m _ _ _ hm
  obtain ⟨l2, w2⟩ : ∃ l, Rd W (.slice a2 len2 cap2) l := by
    obtain ⟨fuel, hf⟩ := h2
    rcases open_ints Try.underlying22 Try.underlying5 (by kernel_rfl) hf with ⟨hcs, _⟩ | ⟨x, l, c, zs, hcs, _, hl, hm, hz, _, hcell, hwz⟩
    · simp [Value.cells] at hcs
      obtain ⟨rfl, rfl, rfl⟩ := hcs
      exact ⟨[], Rd.nil _⟩
    · simp [Value.cells] at hcs
      obtain ⟨rfl, rfl, rfl⟩ := hcs
      exact ⟨_, Rd.ofRow hl hm (by simpa using hz) hcell hwz⟩
  clear hA0 hval0
  refine (walk s0 _ s1 _ l2 W w0 w1 w2).mono fun e W' ⟨he, bel⟩ => ?_
  subst he
  exact ⟨_, rfl, _, _, _, [], _, [], hW', trodAll_mk1 (shut_bool Try.underlying4 _), (trodAll_cons_mk (Below.trod laidOut (by kernel_rfl) (of_decide_eq_true (by kernel_rfl)) k0 bel lt0) (trodAll_cons_mk (Below.trod laidOut (by kernel_rfl) (of_decide_eq_true (by kernel_rfl)) k1 bel lt1) (trodAll_cons_mk (Below.trod laidOut (by kernel_rfl) (of_decide_eq_true (by kernel_rfl)) k2 bel lt2) trodAll_mk0))), rfl, bel.frame _, fun h => by cases h⟩

theorem over : Rows.codecBackRow.holds Try.pinned (OpenSpec.ofChange Rows.codecBackSpec) :=
  OpenClaim.holds_of_wide 5 Try.f5 rfl rfl rfl rfl rfl rfl rfl ⟨rfl, rfl, rfl, rfl, rfl⟩ rfl rfl rfl rfl rfl (by kernel_rfl) Try.func5 (by kernel_rfl)
    (of_decide_eq_true (by kernel_rfl)) (by unfold Func.isWrapper; first | (rw [if_pos (by decide +kernel)]; kernel_rfl) | (rw [if_neg (by decide +kernel)]; exact ⟨rfl, rfl⟩))
    (fun os started H enc _ => lifted os started H enc)

end Go.Proofs.Ytcaalklpjpefjaa.codecBack
namespace Go.Proofs.Ytcaalklpjpefjaa

theorem codecBack_holds : Rows.CodecBackSaid := codecBack.over

end Go.Proofs.Ytcaalklpjpefjaa
