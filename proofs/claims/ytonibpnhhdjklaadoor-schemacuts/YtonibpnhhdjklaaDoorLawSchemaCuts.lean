/- Proved: for all versions, records, cuts and bytes the law SchemaCuts answers true (and the call leaves all older memory as it was). Its condition: the package-level variable schema.fieldsOf starts as the program's text lays it (the card ties it to that text, by the deep look, over the pruned copy). -/
import Derived.Test.YtonibpnhhdjklaaDoorSchemaAwake
import Derived.Test.YtonibpnhhdjklaaDoorOpenSchema
import Derived.OpenShut
import Derived.ChangeOld
namespace Go.Proofs.YtonibpnhhdjklaaDoor.schemaCuts
open Go.ChangeShapes Go.WideShapes Go.ChangeAt Go.RowKit

set_option maxRecDepth 100000 in
set_option maxHeartbeats 2000000 in
theorem walk (v : Int) (r : Rec) (c : Int) (vm : Value) (M : List UInt8) (w : World) (_hv : (Lit.int .i64 v).wf = true) (_hr : RecOk r) (_hc : (Lit.int .i64 c).wf = true) (hm : Rd w vm M) (ht : TabF w) :
    Calls Tryd.prog 7 #[.int .i64 v, recV r, .int .i64 c, vm] w fun e w' => e = .returned (.bool true) ∧ Below w.heap.size w w' := by
  have HA := hide (fun W (hb : Below w.heap.size w W) => awake6_any W (ht.below hb (Nat.le_refl _)))
  have HM := hide hm
  obtain ⟨am, cm, rfl, hlc, hcm, -⟩ := hm
  have hml : (M.length : Int) ≤ 9223372036854775807 := by unfold maxLen at hcm; omega
  clear hlc hcm
  have HB0 : Hid (∀ X, Below w.heap.size w (w.alloc X)) := fun X => (Below.refl _ _).alloc (Nat.le_refl _) X
  have S1 : Hid (∀ X, (w.alloc X).heap.size = w.heap.size + 1) := fun X => by simp
  have X1 : Hid (∀ cs, Br (w.alloc (.cells cs 25)) w.heap.size cs) := fun cs => heap_alloc_new w _
  have HEN := hide (fun W (hb : Below w.heap.size w W) => encodeR_any v r W (ht.below hb (Nat.le_refl _)))
  unfold EncodedR at HEN
  unfold recV at HEN ⊢
  by_cases hok : (1 ≤ v ∧ v ≤ 3) ∧ FitsR r
  case neg =>
    have he : (encErr v r != 0) = true := by
      rw [bne_iff_ne]
      unfold encErr
      by_cases h1 : 1 ≤ v ∧ v ≤ 3
      · rw [if_pos h1, if_neg (fun h => hok ⟨h1, h⟩)]; decide
      · rw [if_neg h1]; decide
    clear hok
    generalize encErr v r = er at *
    generalize encL v r = E at *
    go_enter Tryd.func7, Tryd.ntmps7
    go_wp2_with fail
    refine (HA.out _ (HB0.out _)).mono ?_
    rintro e W1 ⟨rfl, hb1⟩
    have HX1 := hide ((X1.out _).below hb1 (Nat.le_refl _))
    have HB1 := hide ((HB0.out _).trans (hb1.mono (by rw [S1.out]; omega)))
    clear hb1 HA X1
    obtain ⟨q0, -⟩ := HX1.out.cell 0
    obtain ⟨q1, -⟩ := HX1.out.cell 1
    obtain ⟨q2, -⟩ := HX1.out.cell 2
    obtain ⟨q3, -⟩ := HX1.out.cell 3
    obtain ⟨q4, -⟩ := HX1.out.cell 4
    obtain ⟨q5, -⟩ := HX1.out.cell 5
    obtain ⟨q6, -⟩ := HX1.out.cell 6
    go_wp2_with fail
    refine (HEN.out _ HB1.out).mono ?_
    rintro e W2 ⟨v2, rfl, ho2, hb2⟩
    have HO2 := hide ho2
    obtain ⟨a2, c2, rfl, -⟩ := ho2.rd
    have HX2 := hide (HX1.out.below hb2 (Nat.le_refl _))
    have HB2 := hide (HB1.out.trans (hb2.mono HB1.out.size))
    have HS2 := hide HB1.out.size
    clear ho2 hb2 HX1 HEN q0 q1 q2 q3 q4 q5 q6
    go_wp2
    go_ret
    exact ⟨rfl, HB2.out⟩
  have e1 : encErr v r = 0 := by unfold encErr; rw [if_pos hok.1, if_pos hok.2]
  have e2 : encL v r = encR v r := by unfold encL; rw [if_pos hok.1, if_pos hok.2]
  have hlen := encR_length hok.1.1 hok.1.2 hok.2
  rw [e1, e2] at HEN
  by_cases hM : (M.length : Int) ≤ 100
  case neg =>
    have hM' : 100 < (M.length : Int) := by omega
    clear hok hM
    generalize encR v r = E at *
    go_enter Tryd.func7, Tryd.ntmps7
    go_wp2_with fail
    refine (HA.out _ (HB0.out _)).mono ?_
    rintro e W1 ⟨rfl, hb1⟩
    have HX1 := hide ((X1.out _).below hb1 (Nat.le_refl _))
    have HB1 := hide ((HB0.out _).trans (hb1.mono (by rw [S1.out]; omega)))
    clear hb1 HA X1
    obtain ⟨q0, -⟩ := HX1.out.cell 0
    obtain ⟨q1, -⟩ := HX1.out.cell 1
    obtain ⟨q2, -⟩ := HX1.out.cell 2
    obtain ⟨q3, -⟩ := HX1.out.cell 3
    obtain ⟨q4, -⟩ := HX1.out.cell 4
    obtain ⟨q5, -⟩ := HX1.out.cell 5
    obtain ⟨q6, -⟩ := HX1.out.cell 6
    go_wp2_with fail
    refine (HEN.out _ HB1.out).mono ?_
    rintro e W2 ⟨v2, rfl, ho2, hb2⟩
    have HO2 := hide ho2
    obtain ⟨a2, c2, rfl, -⟩ := ho2.rd
    have HX2 := hide (HX1.out.below hb2 (Nat.le_refl _))
    have HB2 := hide (HB1.out.trans (hb2.mono HB1.out.size))
    have HS2 := hide HB1.out.size
    clear ho2 hb2 HX1 HEN q0 q1 q2 q3 q4 q5 q6
    go_wp2
    go_ret
    exact ⟨rfl, HB2.out⟩
  have hM' : ¬ (100 < (M.length : Int)) := by omega
  have HCUT : Hid (0 ≤ c → c < ((encR v r).length : Int) → ∃ f : Int, f ≠ 0 ∧ ∃ X : Rec, ∀ W v1, Rd W v1 ((encR v r).take c.toNat) → Below w.heap.size w W → Calls Tryd.prog 16 #[v1] W fun e w' => e = .returned (.tuple #[.agg #[.int .i64 X.idx, .int .i64 X.proc, .int .i64 X.seq, .int .i64 X.op.code, .int .i64 X.op.a, .int .i64 X.op.b, .int .i64 X.resp], .int .i64 f]) ∧ Below W.heap.size W w') := fun h0 h1 =>
    ⟨(decR ((encR v r).take c.toNat)).2, decR_cut hok.1.1 hok.1.2 hok.2 c.toNat (by omega), (decR ((encR v r).take c.toNat)).1, fun W v1 h hb => decodeR_any v1 _ W h (by rw [List.length_take]; omega) (ht.below hb (Nat.le_refl _))⟩
  have HMORE : Hid (v = 3 → M ≠ [] → ∃ f : Int, f ≠ 0 ∧ ∃ X : Rec, ∀ W v1, Rd W v1 (encR v r ++ M) → Below w.heap.size w W → Calls Tryd.prog 16 #[v1] W fun e w' => e = .returned (.tuple #[.agg #[.int .i64 X.idx, .int .i64 X.proc, .int .i64 X.seq, .int .i64 X.op.code, .int .i64 X.op.a, .int .i64 X.op.b, .int .i64 X.resp], .int .i64 f]) ∧ Below W.heap.size W w') := fun h0 h1 =>
    ⟨(decR (encR v r ++ M)).2, by rw [h0]; exact decR_more hok.2 h1, (decR (encR v r ++ M)).1, fun W v1 h hb => decodeR_any v1 _ W h (by rw [List.length_append]; omega) (ht.below hb (Nat.le_refl _))⟩
  have hEl : ((encR v r).length : Int) ≤ 300 := by omega
  clear hok e1 e2 hlen hM
  generalize encR v r = E at *
  by_cases h0 : 0 ≤ c
  · by_cases h1 : c < (E.length : Int)
    · obtain ⟨f, hf, X, HD⟩ := HCUT.out h0 h1
      have hf' : (f == 0) = false := beq_eq_false_iff_ne.2 hf
      have HDD := hide HD
      clear HD hf HCUT
      go_enter Tryd.func7, Tryd.ntmps7
      go_wp2_with fail
      refine (HA.out _ (HB0.out _)).mono ?_
      rintro e W1 ⟨rfl, hb1⟩
      have HX1 := hide ((X1.out _).below hb1 (Nat.le_refl _))
      have HB1 := hide ((HB0.out _).trans (hb1.mono (by rw [S1.out]; omega)))
      clear hb1 HA X1
      obtain ⟨q0, -⟩ := HX1.out.cell 0
      obtain ⟨q1, -⟩ := HX1.out.cell 1
      obtain ⟨q2, -⟩ := HX1.out.cell 2
      obtain ⟨q3, -⟩ := HX1.out.cell 3
      obtain ⟨q4, -⟩ := HX1.out.cell 4
      obtain ⟨q5, -⟩ := HX1.out.cell 5
      obtain ⟨q6, -⟩ := HX1.out.cell 6
      go_wp2_with fail
      refine (HEN.out _ HB1.out).mono ?_
      rintro e W2 ⟨v2, rfl, ho2, hb2⟩
      have HO2 := hide ho2
      obtain ⟨a2, c2, rfl, -⟩ := ho2.rd
      have HX2 := hide (HX1.out.below hb2 (Nat.le_refl _))
      have HB2 := hide (HB1.out.trans (hb2.mono HB1.out.size))
      have HS2 := hide HB1.out.size
      clear ho2 hb2 HX1 HEN q0 q1 q2 q3 q4 q5 q6
      have HC2 := hide (run_cut_h W2 _ E HO2.out.rd .i64 c h0 (by omega))
      go_wp2_with (refine wpList_cut _ rfl _ _ _ _ rfl _ HC2.out ?_)
      intro v3 hr3
      have HR3 := hide hr3
      clear hr3 HC2
      go_wp2_with fail
      refine (HDD.out _ _ HR3.out HB2.out).mono ?_
      rintro e W3 ⟨rfl, hb3⟩
      obtain ⟨WA, hWe⟩ : ∃ WA, WA = W3.alloc (.cells #[.int .i64 X.idx, .int .i64 X.proc, .int .i64 X.seq, .int .i64 X.op.code, .int .i64 X.op.a, .int .i64 X.op.b, .int .i64 X.resp] 25) := ⟨_, rfl⟩
      have hbA : Below W2.heap.size W2 WA := by rw [hWe]; exact hb3.alloc hb3.size _
      have HB3 := hide (HB2.out.trans (hbA.mono HB2.out.size))
      have HO3 := hide (HO2.out.rd.below hbA (Nat.le_refl _))
      have HSN := hide HB3.out.size
      clear hb3 hbA HR3 HO2 HX2 HB2 HB1 HS2
      go_upto_region 9 with fail
      rw [← hWe]
      clear hWe
      by_cases h3 : v = 3
      case neg =>
        have hn3 : (v != 3) = true := by rw [bne_iff_ne]; exact h3
        clear HMORE h3
        go_wp2
        go_ret
        exact ⟨rfl, HB3.out⟩
      have hn3 : (v != 3) = false := by rw [h3]; rfl
      by_cases hMe : M = []
      · have hm0 : M.length = 0 := by rw [hMe]; rfl
        have hmq : ((M.length : Int) == 0) = true := by rw [hm0]; rfl
        clear HMORE h3 hMe
        go_wp2
        go_ret
        exact ⟨rfl, HB3.out⟩
      obtain ⟨f2, hf, X2, HD⟩ := HMORE.out h3 hMe
      have hm0 : M.length ≠ 0 := by simpa using hMe
      have hmq : ((M.length : Int) == 0) = false := beq_eq_false_iff_ne.2 (by omega)
      have hf2 : (f2 != 0) = true := by rw [bne_iff_ne]; exact hf
      have HDD2 := hide HD
      clear HD hf HMORE h3 hMe
      go_wp2_with (at_builtin; refine wpList_append_rd _ rfl _ _ rfl WA.heap.size _ [] rfl (Own.nil _ _) _ E rfl HO3.out (by simp; omega) (by simp) ?_)
      intro v4 W4 ho4 hb4
      have HO4 : Hid (Own W4 WA.heap.size v4 E) := ho4
      have HM4 := hide (HM.out.below (HB3.out.trans (hb4.mono HSN.out)) (Nat.le_refl _))
      have HB4 := hide (HB3.out.trans (hb4.mono HSN.out))
      have HS4 : Hid (WA.heap.size ≤ W4.heap.size) := hide (Nat.le_trans (by simp) hb4.size)
      clear ho4 hb4
      go_wp2_with (at_builtin; refine wpList_append_rd _ rfl _ _ rfl WA.heap.size _ E rfl HO4.out _ M rfl HM4.out (by omega) HS4.out ?_)
      intro v5 W5 ho5 hb5
      have HO5 : Hid (Rd W5 v5 (E ++ M)) := hide ho5.rd
      have HB5 := hide (HB4.out.trans (hb5.mono HSN.out))
      clear ho5 hb5
      go_wp2_with fail
      refine (HDD2.out _ _ HO5.out HB5.out).mono ?_
      rintro e W6 ⟨rfl, hb6⟩
      have HB6 := hide (HB5.out.trans (hb6.mono HB5.out.size))
      clear hb6
      go_wp2
      go_ret
      exact ⟨rfl, HB6.out.alloc HB6.out.size _⟩
    · have h1' : (E.length : Int) ≤ c := by omega
      clear HCUT
      go_enter Tryd.func7, Tryd.ntmps7
      go_wp2_with fail
      refine (HA.out _ (HB0.out _)).mono ?_
      rintro e W1 ⟨rfl, hb1⟩
      have HX1 := hide ((X1.out _).below hb1 (Nat.le_refl _))
      have HB1 := hide ((HB0.out _).trans (hb1.mono (by rw [S1.out]; omega)))
      clear hb1 HA X1
      obtain ⟨q0, -⟩ := HX1.out.cell 0
      obtain ⟨q1, -⟩ := HX1.out.cell 1
      obtain ⟨q2, -⟩ := HX1.out.cell 2
      obtain ⟨q3, -⟩ := HX1.out.cell 3
      obtain ⟨q4, -⟩ := HX1.out.cell 4
      obtain ⟨q5, -⟩ := HX1.out.cell 5
      obtain ⟨q6, -⟩ := HX1.out.cell 6
      go_wp2_with fail
      refine (HEN.out _ HB1.out).mono ?_
      rintro e W2 ⟨v2, rfl, ho2, hb2⟩
      have HO2 := hide ho2
      obtain ⟨a2, c2, rfl, -⟩ := ho2.rd
      have HX2 := hide (HX1.out.below hb2 (Nat.le_refl _))
      have HB2 := hide (HB1.out.trans (hb2.mono HB1.out.size))
      have HS2 := hide HB1.out.size
      clear ho2 hb2 HX1 HEN q0 q1 q2 q3 q4 q5 q6
      have HB3 := HB2
      have HO3 := hide HO2.out.rd
      have HSN := hide HB2.out.size
      clear HO2 HX2 HB1 HS2
      by_cases h3 : v = 3
      case neg =>
        have hn3 : (v != 3) = true := by rw [bne_iff_ne]; exact h3
        clear HMORE h3
        go_wp2
        go_ret
        exact ⟨rfl, HB3.out⟩
      have hn3 : (v != 3) = false := by rw [h3]; rfl
      by_cases hMe : M = []
      · have hm0 : M.length = 0 := by rw [hMe]; rfl
        have hmq : ((M.length : Int) == 0) = true := by rw [hm0]; rfl
        clear HMORE h3 hMe
        go_wp2
        go_ret
        exact ⟨rfl, HB3.out⟩
      obtain ⟨f2, hf, X2, HD⟩ := HMORE.out h3 hMe
      have hm0 : M.length ≠ 0 := by simpa using hMe
      have hmq : ((M.length : Int) == 0) = false := beq_eq_false_iff_ne.2 (by omega)
      have hf2 : (f2 != 0) = true := by rw [bne_iff_ne]; exact hf
      have HDD2 := hide HD
      clear HD hf HMORE h3 hMe
      go_wp2_with (at_builtin; refine wpList_append_rd _ rfl _ _ rfl W2.heap.size _ [] rfl (Own.nil _ _) _ E rfl HO3.out (by simp; omega) (by simp) ?_)
      intro v4 W4 ho4 hb4
      have HO4 : Hid (Own W4 W2.heap.size v4 E) := ho4
      have HM4 := hide (HM.out.below (HB3.out.trans (hb4.mono HSN.out)) (Nat.le_refl _))
      have HB4 := hide (HB3.out.trans (hb4.mono HSN.out))
      have HS4 : Hid (W2.heap.size ≤ W4.heap.size) := hide (Nat.le_trans (by simp) hb4.size)
      clear ho4 hb4
      go_wp2_with (at_builtin; refine wpList_append_rd _ rfl _ _ rfl W2.heap.size _ E rfl HO4.out _ M rfl HM4.out (by omega) HS4.out ?_)
      intro v5 W5 ho5 hb5
      have HO5 : Hid (Rd W5 v5 (E ++ M)) := hide ho5.rd
      have HB5 := hide (HB4.out.trans (hb5.mono HSN.out))
      clear ho5 hb5
      go_wp2_with fail
      refine (HDD2.out _ _ HO5.out HB5.out).mono ?_
      rintro e W6 ⟨rfl, hb6⟩
      have HB6 := hide (HB5.out.trans (hb6.mono HB5.out.size))
      clear hb6
      go_wp2
      go_ret
      exact ⟨rfl, HB6.out.alloc HB6.out.size _⟩
  · have h0' : c < 0 := by omega
    clear HCUT
    go_enter Tryd.func7, Tryd.ntmps7
    go_wp2_with fail
    refine (HA.out _ (HB0.out _)).mono ?_
    rintro e W1 ⟨rfl, hb1⟩
    have HX1 := hide ((X1.out _).below hb1 (Nat.le_refl _))
    have HB1 := hide ((HB0.out _).trans (hb1.mono (by rw [S1.out]; omega)))
    clear hb1 HA X1
    obtain ⟨q0, -⟩ := HX1.out.cell 0
    obtain ⟨q1, -⟩ := HX1.out.cell 1
    obtain ⟨q2, -⟩ := HX1.out.cell 2
    obtain ⟨q3, -⟩ := HX1.out.cell 3
    obtain ⟨q4, -⟩ := HX1.out.cell 4
    obtain ⟨q5, -⟩ := HX1.out.cell 5
    obtain ⟨q6, -⟩ := HX1.out.cell 6
    go_wp2_with fail
    refine (HEN.out _ HB1.out).mono ?_
    rintro e W2 ⟨v2, rfl, ho2, hb2⟩
    have HO2 := hide ho2
    obtain ⟨a2, c2, rfl, -⟩ := ho2.rd
    have HX2 := hide (HX1.out.below hb2 (Nat.le_refl _))
    have HB2 := hide (HB1.out.trans (hb2.mono HB1.out.size))
    have HS2 := hide HB1.out.size
    clear ho2 hb2 HX1 HEN q0 q1 q2 q3 q4 q5 q6
    have HB3 := HB2
    have HO3 := hide HO2.out.rd
    have HSN := hide HB2.out.size
    clear HO2 HX2 HB1 HS2
    by_cases h3 : v = 3
    case neg =>
      have hn3 : (v != 3) = true := by rw [bne_iff_ne]; exact h3
      clear HMORE h3
      go_wp2
      go_ret
      exact ⟨rfl, HB3.out⟩
    have hn3 : (v != 3) = false := by rw [h3]; rfl
    by_cases hMe : M = []
    · have hm0 : M.length = 0 := by rw [hMe]; rfl
      have hmq : ((M.length : Int) == 0) = true := by rw [hm0]; rfl
      clear HMORE h3 hMe
      go_wp2
      go_ret
      exact ⟨rfl, HB3.out⟩
    obtain ⟨f2, hf, X2, HD⟩ := HMORE.out h3 hMe
    have hm0 : M.length ≠ 0 := by simpa using hMe
    have hmq : ((M.length : Int) == 0) = false := beq_eq_false_iff_ne.2 (by omega)
    have hf2 : (f2 != 0) = true := by rw [bne_iff_ne]; exact hf
    have HDD2 := hide HD
    clear HD hf HMORE h3 hMe
    go_wp2_with (at_builtin; refine wpList_append_rd _ rfl _ _ rfl W2.heap.size _ [] rfl (Own.nil _ _) _ E rfl HO3.out (by simp; omega) (by simp) ?_)
    intro v4 W4 ho4 hb4
    have HO4 : Hid (Own W4 W2.heap.size v4 E) := ho4
    have HM4 := hide (HM.out.below (HB3.out.trans (hb4.mono HSN.out)) (Nat.le_refl _))
    have HB4 := hide (HB3.out.trans (hb4.mono HSN.out))
    have HS4 : Hid (W2.heap.size ≤ W4.heap.size) := hide (Nat.le_trans (by simp) hb4.size)
    clear ho4 hb4
    go_wp2_with (at_builtin; refine wpList_append_rd _ rfl _ _ rfl W2.heap.size _ E rfl HO4.out _ M rfl HM4.out (by omega) HS4.out ?_)
    intro v5 W5 ho5 hb5
    have HO5 : Hid (Rd W5 v5 (E ++ M)) := hide ho5.rd
    have HB5 := hide (HB4.out.trans (hb5.mono HSN.out))
    clear ho5 hb5
    go_wp2_with fail
    refine (HDD2.out _ _ HO5.out HB5.out).mono ?_
    rintro e W6 ⟨rfl, hb6⟩
    have HB6 := hide (HB5.out.trans (hb6.mono HB5.out.size))
    clear hb6
    go_wp2
    go_ret
    exact ⟨rfl, HB6.out.alloc HB6.out.size _⟩

theorem own : ownKnob Tryd.prog.godebug = none := by kernel_rfl
theorem laidOut : laidOutB Tryd.prog = true := by kernel_rfl

set_option linter.unusedVariables false in
set_option maxRecDepth 100000 in
theorem lifted (os : Os) (started : os.Started) (H : Type) (enc : TypeId × Value → H) :
    ReturnsInHanded {} Tryd.checked os 7 .any (fun w args => (Rows.schemaCutsSpec.pre enc Tryd.prog Tryd.f7 Rows.schemaCutsRow.domain false w args ∧ laidMetH Tryd.prog Rows.schemaCutsRow.laid w) ∧ sizedMet enc Tryd.prog Tryd.f7 (OpenSpec.ofChange Rows.schemaCutsSpec) false w args) (Rows.schemaCutsSpec.post enc Tryd.prog Tryd.f7 false true false false) := by
  refine returnsInHanded_of_change_and (C := Tryd.checked) (X := fun w _ => laidMetH Tryd.prog Rows.schemaCutsRow.laid w) (fun _ _ _ hh h => h.of_heap hh) own started (by kernel_rfl) Tryd.func7
    (ChangeSpec.witness_shaped (enc := enc) (C := Tryd.checked) (os := os) (X := fun w _ => laidMetH Tryd.prog Rows.schemaCutsRow.laid w) false (World.doorLaid Tryd.prog 400 os) #[.int .i64 0, .agg #[.int .i64 0, .int .i64 0, .int .i64 0, .int .i64 0, .int .i64 0, .int .i64 0, .int .i64 0], .int .i64 0, .slice none 0 0] 8 rfl (World.shaped_of_RefB (by kernel_rfl) (by kernel_rfl)) (by kernel_rfl) (by kernel_rfl) (by kernel_rfl) (door_met os _)) ?_
  intro W base args ds gs before hval0 hW hcnd _ hL _
  have hval : ∀ (j : Nat) t v, Tryd.f7.params[j]? = some t → args[j]? = some v → Value.okWide Tryd.prog W .any base t v := hval0
  have hW' := hW
  obtain ⟨p, q, hA0, hV, rfl, hfz, hnd⟩ := hW
  have hA : DataW.TrodAll enc Tryd.prog W 0 (fun _ => true) true Tryd.f7.params.toList args.toList ds p := hA0
  rw [Tryd.params7] at hA hval
  obtain ⟨v0, vs0, d0, ds0, p0, q0, hargs, rfl, rfl, h0, r0⟩ := trodAll_cons hA
  obtain ⟨v1, vs1, d1, ds1, p1, q1, rfl, rfl, rfl, h1, r1⟩ := trodAll_cons r0
  obtain ⟨v2, vs2, d2, ds2, p2, q2, rfl, rfl, rfl, h2, r2⟩ := trodAll_cons r1
  obtain ⟨v3, vs3, d3, ds3, p3, q3, rfl, rfl, rfl, h3, r3⟩ := trodAll_cons r2
  obtain ⟨rfl, rfl, rfl⟩ := trodAll_nil r3
  obtain rfl : args = #[v0, v1, v2, v3] := by cases args; simp_all
  obtain ⟨rfl, rfl⟩ := trodVars_none hV
  obtain ⟨a0, rfl, rfl, rfl, w0⟩ := open_int Tryd.underlying3 (hval 0 3 v0 rfl rfl) h0
  have lt1 : ∀ x ∈ p1, x.block < W.heap.size := by obtain ⟨m, hm⟩ := h1; exact DataW.trod_lt m _ _ _ hm
  obtain ⟨s1, e1, w1⟩ := open_rec (hval 1 25 v1 rfl rfl) h1
  subst e1
  have k1 := h1
  obtain ⟨a2, rfl, rfl, rfl, w2⟩ := open_int Tryd.underlying3 (hval 2 3 v2 rfl rfl) h2
  obtain ⟨a3, len3, cap3, rfl⟩ := okWide_slice Tryd.underlying27 (hval 3 27 v3 rfl rfl)
  have k3 := h3
  have lt3 : ∀ x ∈ p3, x.block < W.heap.size := by obtain ⟨m, hm⟩ := k3; exact DataW.trod_lt m _ _ _ hm
  obtain ⟨l3, w3⟩ : ∃ l, Rd W (.slice a3 len3 cap3) l := by
    obtain ⟨fuel, hf⟩ := h3
    rcases open_ints Tryd.underlying27 Tryd.underlying5 (by kernel_rfl) hf with ⟨hcs, _⟩ | ⟨x, l, c, zs, hcs, _, hl, hm, hz, _, hcell, hwz⟩
    · simp [Value.cells] at hcs
      obtain ⟨rfl, rfl, rfl⟩ := hcs
      exact ⟨[], Rd.nil _⟩
    · simp [Value.cells] at hcs
      obtain ⟨rfl, rfl, rfl⟩ := hcs
      exact ⟨_, Rd.ofRow hl hm (by simpa using hz) hcell hwz⟩
  clear hA0 hval0
  refine (walk a0 s1 a2 _ l3 W w0 w1 w2 w3 (tabs hL)).mono fun e W' ⟨he, bel⟩ => ?_
  subst he
  exact ⟨_, rfl, _, _, _, [], _, [], hW', trodAll_mk1 (shut_bool Tryd.underlying4 _), (trodAll_cons_mk (shut_int Tryd.underlying3 w0) (trodAll_cons_mk (Below.trod laidOut (by kernel_rfl) (of_decide_eq_true (by kernel_rfl)) k1 bel lt1) (trodAll_cons_mk (shut_int Tryd.underlying3 w2) (trodAll_cons_mk (Below.trod laidOut (by kernel_rfl) (of_decide_eq_true (by kernel_rfl)) k3 bel lt3) trodAll_mk0)))), rfl, bel.frame _, fun h => by cases h⟩

theorem over : Rows.schemaCutsRow.holds Tryd.pinned (OpenSpec.ofChange Rows.schemaCutsSpec) :=
  OpenClaim.holds_of_wide 7 Tryd.f7 rfl rfl rfl rfl rfl rfl rfl ⟨rfl, rfl, rfl, rfl, rfl⟩ rfl rfl rfl rfl rfl (by kernel_rfl) Tryd.func7 (by kernel_rfl)
    (of_decide_eq_true (by kernel_rfl)) (by unfold Func.isWrapper; first | (rw [if_pos (by decide +kernel)]; kernel_rfl) | (rw [if_neg (by decide +kernel)]; exact ⟨rfl, rfl⟩))
    (fun os started H enc _ => lifted os started H enc)

end Go.Proofs.YtonibpnhhdjklaaDoor.schemaCuts
namespace Go.Proofs.YtonibpnhhdjklaaDoor

set_option maxRecDepth 100000 in
theorem schemaCuts_holds : Rows.SchemaCutsCardSaid :=
  Claim7.holds_tied_plain_at .later [] _ _ _ _ schemaCuts.over (fun _ h => by cases h) (by kernel_rfl) (fun _ h => by cases h) schemaCuts_row_tie rfl ⟨rfl, rfl⟩ (by kernel_rfl) rfl
    (fun f fn hf hfn => by
      obtain rfl : f = 7 := Option.some.inj ((show Tryd.prog.funcNamed "ferryman/ferrymanlaw06.SchemaCuts" = some 7 by kernel_rfl).symm.trans hf) |>.symm
      obtain rfl : fn = Tryd.f7 := (Option.some.inj (Tryd.func7.symm.trans hfn)).symm
      exact ⟨by kernel_rfl, fun j t ht => by
        rw [Tryd.params7] at ht
        have hm : t ∈ [3, 25, 3, 27] := by simpa using Array.mem_of_getElem? ht
        have hall : ([3, 25, 3, 27].all fun u => !Tryd.prog.wantsStandIn u) = true := by kernel_rfl
        exact (show Tryd.prog.wantsStandIn t = false by simpa using List.all_eq_true.1 hall t hm)⟩)
    (by kernel_rfl)

end Go.Proofs.YtonibpnhhdjklaaDoor
