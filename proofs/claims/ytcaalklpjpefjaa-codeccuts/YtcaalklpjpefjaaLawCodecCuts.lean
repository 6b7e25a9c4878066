/- Proved: for all states, cuts and bytes the law CodecCuts answers true (and the call leaves all older memory as it was). No condition. -/
import Derived.Test.YtcaalklpjpefjaaCodecEq
import Derived.Test.YtcaalklpjpefjaaOpenObjs
import Derived.Test.YtcaalklpjpefjaaObjsFew
import Derived.OpenShut
import Derived.ChangeOld
namespace Go.Proofs.Ytcaalklpjpefjaa.codecCuts
open Go.ChangeShapes Go.WideShapes Go.ChangeAt Go.RowKit

/-- One byte laid down, as bytes. -/
theorem rd_one (w : World) (N : Nat) (hN : N = w.heap.size) (x : UInt8) (X : Int) (hX : X = (x.toNat : Int)) : Rd (w.alloc (.cells #[.int .u8 X] 5)) (.slice (some ⟨N, 0, none⟩) 1 1) [x] := by
  subst hX
  subst hN
  refine ⟨_, 1, rfl, Nat.le_refl _, by decide, (fun e => by cases e), .inr ⟨_, _, rfl, ?_⟩⟩
  intro j hj
  match j, hj with
  | 0, _ => simp

theorem u8_in {n : Int} (h : (Lit.int .u8 n).wf = true) : 0 ≤ n ∧ n ≤ 255 := by
  simpa [Lit.wf, IntKind.min, IntKind.max, IntKind.signed, IntKind.bits] using h

set_option maxRecDepth 100000 in
set_option maxHeartbeats 4000000 in
theorem walk (v : Value) (s : St) (c m : Int) (w : World) (hs : StV w v s) (_ : (Lit.int .i64 c).wf = true) (hm : (Lit.int .u8 m).wf = true) :
    Calls Try.prog 7 #[v, .int .i64 c, .int .u8 m] w fun e w' => e = .returned (.bool true) ∧ Below w.heap.size w w' := by
  have HA := hide (fun w => awake5_any w)
  have HFW := hide (fun w h => few_any v s w h)
  have HSV := hide hs
  obtain ⟨vl, rfl, -, -, -⟩ := hs
  obtain ⟨hm0, hm1⟩ := u8_in hm
  obtain ⟨y, hy⟩ : ∃ b : UInt8, m = (b.toNat : Int) := ⟨UInt8.ofNat m.toNat, by rw [UInt8.toNat_ofNat']; omega⟩
  have HY := hide hy
  clear hm hm0 hm1 hy
  have HB0 : Hid (∀ X, Below w.heap.size w (w.alloc X)) := fun X => (Below.refl _ _).alloc (Nat.le_refl _) X
  have S1 : Hid (∀ X, (w.alloc X).heap.size = w.heap.size + 1) := fun X => by simp
  have X1 : Hid (∀ cs, Bx (w.alloc (.cells cs 34)) w.heap.size cs) := fun cs => heap_alloc_new w _
  by_cases hl : (s.L.length : Int) ≤ 300
  case neg =>
    rw [decide_eq_false hl] at HFW
    clear hl
    go_enter Try.func7, Try.ntmps7
    go_wp2_with fail
    refine (HA.out _).mono ?_
    rintro e W1 ⟨rfl, hb1⟩
    have HX1 := hide ((X1.out _).below hb1 (Nat.le_refl _))
    have HB1 := hide ((HB0.out _).trans (hb1.mono (by rw [S1.out]; omega)))
    clear hb1 HA X1
    obtain ⟨q0, -⟩ := HX1.out.cell 0
    obtain ⟨q1, -⟩ := HX1.out.cell 1
    obtain ⟨q2, -⟩ := HX1.out.cell 2
    obtain ⟨q3, -⟩ := HX1.out.cell 3
    go_wp2_with fail
    refine (HFW.out _ (HSV.out.below HB1.out (Nat.le_refl _))).mono ?_
    rintro e W2 ⟨rfl, hb2⟩
    have HB2 := hide (HB1.out.trans (hb2.mono HB1.out.size))
    clear hb2 HX1 HB1 q0 q1 q2 q3
    go_wp2
    go_ret
    exact ⟨rfl, HB2.out⟩
  rw [decide_eq_true hl] at HFW
  have HEN := hide (fun W v1 (h : StV W v1 s) => encodeState_any v1 s W h (by omega))
  unfold EncR at HEN
  obtain ⟨ek, E, hcs, HEN'⟩ : ∃ (ek : Int) (E : List UInt8), ((ek = 0 ∧ E = encS s ∧ MayS s) ∨ (ek = 1 ∧ E = [])) ∧
      Hid (∀ W v1, StV W v1 s → Calls Try.prog 15 #[v1] W fun e w' => ∃ v', e = .returned (.tuple #[v', .int .i64 ek]) ∧ Rd w' v' E ∧ Below W.heap.size W w') := by
    by_cases hm : MayS s
    · rw [if_pos hm, if_pos hm] at HEN
      exact ⟨0, encS s, .inl ⟨rfl, rfl, hm⟩, HEN⟩
    · rw [if_neg hm, if_neg hm] at HEN
      exact ⟨1, [], .inr ⟨rfl, rfl⟩, HEN⟩
  have HCS := hide hcs
  clear HEN hl hcs
  go_enter Try.func7, Try.ntmps7
  go_wp2_with fail
  refine (HA.out _).mono ?_
  rintro e W1 ⟨rfl, hb1⟩
  have HX1 := hide ((X1.out _).below hb1 (Nat.le_refl _))
  have HB1 := hide ((HB0.out _).trans (hb1.mono (by rw [S1.out]; omega)))
  clear hb1 HA X1 HB0 S1
  obtain ⟨q0, -⟩ := HX1.out.cell 0
  obtain ⟨q1, -⟩ := HX1.out.cell 1
  obtain ⟨q2, -⟩ := HX1.out.cell 2
  obtain ⟨q3, -⟩ := HX1.out.cell 3
  go_wp2_with fail
  refine (HFW.out _ (HSV.out.below HB1.out (Nat.le_refl _))).mono ?_
  rintro e W2 ⟨rfl, hb2⟩
  have HX2 := hide (HX1.out.below hb2 (Nat.le_refl _))
  have HB2 := hide (HB1.out.trans (hb2.mono HB1.out.size))
  clear hb2 HX1 HB1 q0 q1 q2 q3 HFW
  obtain ⟨q0, -⟩ := HX2.out.cell 0
  obtain ⟨q1, -⟩ := HX2.out.cell 1
  obtain ⟨q2, -⟩ := HX2.out.cell 2
  obtain ⟨q3, -⟩ := HX2.out.cell 3
  go_wp2_with fail
  refine (HEN'.out _ _ (HSV.out.below HB2.out (Nat.le_refl _))).mono ?_
  rintro e W3 ⟨v3, rfl, hr3, hb3⟩
  have HR3 := hide hr3
  obtain ⟨a3, c3, rfl, -⟩ := hr3
  have HB3 := hide (HB2.out.trans (hb3.mono HB2.out.size))
  clear hb3 HX2 HB2 q0 q1 q2 q3 HEN' HSV
  rcases HCS.out with ⟨rfl, hE, hmay⟩ | ⟨rfl, rfl⟩
  case inr =>
    go_wp2
    go_ret
    exact ⟨rfl, HB3.out⟩
  have hEL := encS_length hmay
  rw [← hE] at hEL
  have HD1 : Hid (∀ v1 W, Rd W v1 (E ++ [y]) → Calls Try.prog 17 #[v1] W fun e w' => ∃ a1 c1, e = .returned (.tuple #[.agg #[.int .i64 0, .slice a1 0 c1, .bool false, .int .i64 0], .int .i64 3]) ∧ Below W.heap.size W w') := fun v1 W h => by
    have h := decodeState_any v1 (E ++ [y]) W h (by rw [List.length_append]; simp; omega)
    unfold Decoded at h
    rw [hE, decS_more hmay [y] (by simp)] at h
    refine h.mono ?_
    rintro e w' ⟨vl, h1, ⟨a1, c1, rfl, -⟩, -, -, -, h5⟩
    exact ⟨a1, c1, h1, h5⟩
  have HD2 : Hid (∀ (k : Nat) v1 W, k < E.length → Rd W v1 (E.take k) → Calls Try.prog 17 #[v1] W fun e w' => ∃ a1 c1, e = .returned (.tuple #[.agg #[.int .i64 0, .slice a1 0 c1, .bool false, .int .i64 0], .int .i64 3]) ∧ Below W.heap.size W w') := fun k v1 W hk h => by
    have h := decodeState_any v1 (E.take k) W h (by rw [List.length_take]; omega)
    unfold Decoded at h
    rw [hE] at hk
    rw [hE, decS_cut hmay k hk] at h
    refine h.mono ?_
    rintro e w' ⟨vl, h1, ⟨a1, c1, rfl, -⟩, -, -, -, h5⟩
    exact ⟨a1, c1, h1, h5⟩
  clear HCS hE hmay
  have HL1 : Hid (∀ (W : World) (N : Nat), N = W.heap.size → Rd (W.alloc (.cells #[.int .u8 m] 5)) (.slice (some ⟨N, 0, none⟩) 1 1) [y]) := fun W N hN => rd_one W N hN y m HY.out
  go_wp2_with (at_builtin; refine wpList_append_rd _ rfl _ _ rfl W3.heap.size _ [] rfl (Own.nil _ _) _ E rfl HR3.out (by simp; omega) (Nat.le_refl _) ?_)
  intro v4 W4 ho4 hb4
  have hs4 := hb4.size
  have ho4' : Own W4 W3.heap.size v4 E := ho4
  have HO4 : Hid (∀ X, Own (W4.alloc X) W3.heap.size v4 E) := fun X => ho4'.below ((Below.refl W4.heap.size W4).alloc (Nat.le_refl _) X) (Nat.le_refl _)
  have HB4 : Hid (∀ X, Below W3.heap.size W3 (W4.alloc X)) := fun X => hb4.alloc hs4 X
  have S4 : Hid (∀ X, W3.heap.size ≤ (W4.alloc X).heap.size) := fun X => by simp; omega
  clear ho4 ho4' hb4
  go_wp2_with (at_builtin; refine wpList_append_rd _ rfl _ _ rfl W3.heap.size _ E rfl (HO4.out _) _ [y] rfl (HL1.out _ _ rfl) (by simp; omega) (S4.out _) ?_)
  intro v5 W5 ho5 hb5
  have HR5 := hide ho5.rd
  have hb35 := (HB4.out _).trans hb5
  have HR35 := hide (HR3.out.below hb35 (Nat.le_refl _))
  have HB5 := hide (HB3.out.trans (hb35.mono HB3.out.size))
  clear hb5 hb35 ho5 hs4 HR3 HB3 HO4 HB4 S4 HL1
  go_wp2_with fail
  refine (HD1.out _ _ HR5.out).mono ?_
  rintro e W6 ⟨a6, c6, rfl, hb6⟩
  have HR6 := hide (HR35.out.below hb6 (Nat.le_refl _))
  have HB6 := hide (HB5.out.trans (hb6.mono HB5.out.size))
  clear hb6 HR5 HR35 HB5 HD1
  have HA6 : Hid (∀ X, Below W6.heap.size W6 (W6.alloc X)) := fun X => (Below.refl _ _).alloc (Nat.le_refl _) X
  have HBA : Hid (∀ X, Below w.heap.size w (W6.alloc X)) := fun X => HB6.out.trans ((HA6.out X).mono HB6.out.size)
  by_cases hc0 : c < 0
  · go_wp2
    go_ret
    exact ⟨rfl, HBA.out _⟩
  by_cases hc1 : (E.length : Int) ≤ c
  · go_wp2
    go_ret
    exact ⟨rfl, HBA.out _⟩
  have hcl : c < (E.length : Int) := by omega
  have hcg : 0 ≤ c := by omega
  have HRC : Hid (∀ X, ∃ v', (Instr.sliceAt 22 (.slice a3 E.length c3) none (some (.int .i64 c)) none).run Try.prog (W6.alloc X) = .ok v' (W6.alloc X) ∧ Rd (W6.alloc X) v' (E.take c.toNat)) := fun X =>
    run_cut_h (W6.alloc X) _ _ (HR6.out.below (HA6.out X) (Nat.le_refl _)) .i64 c (by omega) (by omega)
  have HD3 := hide (fun v1 W h => HD2.out c.toNat v1 W (by omega) h)
  clear HD2
  go_wp2_with (refine wpList_cut _ rfl _ _ _ _ rfl _ (HRC.out _) ?_)
  intro v7 hr7
  go_wp2_with fail
  refine (HD3.out _ _ hr7).mono ?_
  rintro e W8 ⟨a8, c8, rfl, hb8⟩
  have HB8 := hide ((HBA.out _).trans (hb8.mono (HBA.out _).size))
  have HA8 : Hid (∀ X, Below w.heap.size w (W8.alloc X)) := fun X => HB8.out.alloc HB8.out.size X
  clear hb8 hr7 HRC HR6 HB6 HBA HA6 HD3
  go_wp2
  go_ret
  exact ⟨rfl, HA8.out _⟩

theorem own : ownKnob Try.prog.godebug = none := by kernel_rfl
theorem laidOut : laidOutB Try.prog = true := by kernel_rfl

set_option linter.unusedVariables false in
set_option maxRecDepth 100000 in
theorem lifted (os : Os) (started : os.Started) (H : Type) (enc : TypeId × Value → H) :
    ReturnsInHanded {} Try.checked os 7 .any (Rows.codecCutsSpec.pre6 enc Try.prog Try.f7 Rows.codecCutsRow.domain false) (Rows.codecCutsSpec.post enc Try.prog Try.f7 false true false false) := by
  refine returnsInHanded_of_change (C := Try.checked) own started (by kernel_rfl) Try.func7
    (ChangeSpec.witness6 (enc := enc) (C := Try.checked) false ⟨#[], #[.agg #[.int .i64 0, .slice none 0 0, .bool false, .int .i64 0], .int .i64 0, .int .u8 0], []⟩ 8 (by kernel_rfl) (by kernel_rfl) (by kernel_rfl) (by kernel_rfl)) ?_
  intro W base args ds gs before hval0 hW hcnd _
  have hval : ∀ (j : Nat) t v, Try.f7.params[j]? = some t → args[j]? = some v → Value.okWide Try.prog W .any base t v := hval0
  have hW' := hW
  obtain ⟨p, q, hA0, hV, rfl, hfz, hnd⟩ := hW
  have hA : DataW.TrodAll enc Try.prog W 0 (fun _ => true) true Try.f7.params.toList args.toList ds p := hA0
  rw [Try.params7] at hA hval
  obtain ⟨v0, vs0, d0, ds0, p0, q0, hargs, rfl, rfl, h0, r0⟩ := trodAll_cons hA
  obtain ⟨v1, vs1, d1, ds1, p1, q1, rfl, rfl, rfl, h1, r1⟩ := trodAll_cons r0
  obtain ⟨v2, vs2, d2, ds2, p2, q2, rfl, rfl, rfl, h2, r2⟩ := trodAll_cons r1
  obtain ⟨rfl, rfl, rfl⟩ := trodAll_nil r2
  obtain rfl : args = #[v0, v1, v2] := by cases args; simp_all
  obtain ⟨rfl, rfl⟩ := trodVars_none hV
  have k0 := h0
  have lt0 : ∀ x ∈ p0, x.block < W.heap.size := by obtain ⟨m, hm⟩ := k0; exact DataW.trod_lt m _ _ _ hm
  obtain ⟨s0, w0⟩ := open_state (hval 0 34 v0 rfl rfl) h0
  obtain ⟨a1, rfl, rfl, rfl, w1⟩ := open_int Try.underlying3 (hval 1 3 v1 rfl rfl) h1
  obtain ⟨a2, rfl, rfl, rfl, w2⟩ := open_int Try.underlying5 (hval 2 5 v2 rfl rfl) h2
  clear hA0 hval0
  refine (walk _ s0 a1 a2 W w0 w1 w2).mono fun e W' ⟨he, bel⟩ => ?_
  subst he
  exact ⟨_, rfl, _, _, _, [], _, [], hW', trodAll_mk1 (shut_bool Try.underlying4 _), (trodAll_cons_mk (Below.trod laidOut (by kernel_rfl) (of_decide_eq_true (by kernel_rfl)) k0 bel lt0) (trodAll_cons_mk (shut_int Try.underlying3 w1) (trodAll_cons_mk (shut_int Try.underlying5 w2) trodAll_mk0))), rfl, bel.frame _, fun h => by cases h⟩

theorem over : Rows.codecCutsRow.holds Try.pinned (OpenSpec.ofChange Rows.codecCutsSpec) :=
  OpenClaim.holds_of_wide 7 Try.f7 rfl rfl rfl rfl rfl rfl rfl ⟨rfl, rfl, rfl, rfl, rfl⟩ rfl rfl rfl rfl rfl (by kernel_rfl) Try.func7 (by kernel_rfl)
    (of_decide_eq_true (by kernel_rfl)) (by unfold Func.isWrapper; first | (rw [if_pos (by decide +kernel)]; kernel_rfl) | (rw [if_neg (by decide +kernel)]; exact ⟨rfl, rfl⟩))
    (fun os started H enc _ => lifted os started H enc)

end Go.Proofs.Ytcaalklpjpefjaa.codecCuts
namespace Go.Proofs.Ytcaalklpjpefjaa

theorem codecCuts_holds : Rows.CodecCutsSaid := codecCuts.over

end Go.Proofs.Ytcaalklpjpefjaa
