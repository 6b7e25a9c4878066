/- Proved: for all bytes and all others the law CrcJoins answers true (and the call leaves all older memory as it was). No condition. -/
import Derived.Test.YthgcgpmdllcdhaaCrcAwake
import Derived.OpenShut
import Derived.ChangeOld
namespace Go.Proofs.Ythgcgpmdllcdhaa.crcJoins
open Go.ChangeShapes Go.WideShapes Go.ChangeAt Go.RowKit

set_option maxRecDepth 100000 in
set_option maxHeartbeats 1000000 in
theorem walk (va : Value) (a : List UInt8) (vb : Value) (b : List UInt8) (w : World) (hra : Rd w va a) (hrb : Rd w vb b) :
    Calls Try.prog 4 #[va, vb] w fun e w' => e = .returned (.bool true) ∧ Below w.heap.size w w' := by
  have HA := hide (awake_any w)
  have HRA := hide hra
  have HRB := hide hrb
  obtain ⟨aa, capa, rfl, _, hcma, _, _⟩ := hra
  obtain ⟨ab, capb, rfl, _, hcmb, _, _⟩ := hrb
  by_cases hl : (a.length : Int) ≤ 3000 ∧ (b.length : Int) ≤ 3000
  · obtain ⟨hla, hlb⟩ := hl
    have C1 : Hid (∀ w1, Below w.heap.size w w1 → Calls Try.prog 11 #[.slice aa a.length capa] w1 fun e w' => e = .returned (.int .u32 (crcMore 0 a : Nat)) ∧ Below w1.heap.size w1 w') := fun w1 hb => sum_any _ a w1 (HRA.out.below hb (Nat.le_refl _))
    have C2 : Hid (∀ w1, Below w.heap.size w w1 → Calls Try.prog 13 #[.int .u32 (crcMore 0 a : Nat), .slice ab b.length capb] w1 fun e w' => e = .returned (.int .u32 (crcMore 0 (a ++ b) : Nat)) ∧ Below w1.heap.size w1 w') := by
      intro w1 hb
      rw [crcMore_append]
      exact more_any _ _ b w1 (HRB.out.below hb (Nat.le_refl _)) (crcMore_lt a (by decide))
    have C3 := hide (fun v w1 h => sum_any v (a ++ b) w1 h)
    generalize crcMore 0 a = X at *
    generalize crcMore 0 (a ++ b) = Y at *
    go_enter Try.func4, Try.ntmps4
    go_wp2_with fail
    refine HA.out.mono ?_
    rintro e w1 ⟨rfl, hb⟩
    have HB1 := hide hb
    clear hb HA
    go_wp2_with fail
    refine (C1.out _ HB1.out).mono ?_
    rintro e w2 ⟨rfl, hb⟩
    have HB2 := hide (HB1.out.trans (hb.mono HB1.out.size))
    clear hb
    go_wp2_with fail
    refine (C2.out _ HB2.out).mono ?_
    rintro e w3 ⟨rfl, hb⟩
    have HB3 := hide (HB2.out.trans (hb.mono HB2.out.size))
    have hs3 := HB3.out.size
    clear hb
    go_wp2_with (at_builtin; refine wpList_append_rdw _ (by rfl) _ _ rfl w3.heap.size _ [] rfl (Own.nil _ _) _ a rfl (HRA.out.below HB3.out (Nat.le_refl _)) (by simp; omega) (Nat.le_refl _) ?_)
    intro v4 w4 ho4 hb4
    have HB4 := hide (HB3.out.trans (hb4.mono hs3))
    have HO4 := hide ho4
    have hs4 := hb4.size
    clear ho4 hb4
    go_wp2_with (at_builtin; refine wpList_append_rdw _ (by rfl) _ _ rfl w3.heap.size _ a rfl HO4.out _ b rfl (HRB.out.below HB4.out (Nat.le_refl _)) (by omega) (by omega) ?_)
    intro v5 w5 ho5 hb5
    have HB5 := hide (HB4.out.trans (hb5.mono hs3))
    have HR5 := hide ho5.rd
    clear ho5 hb5
    go_wp2_with fail
    refine (C3.out _ _ HR5.out).mono ?_
    rintro e w6 ⟨rfl, hb⟩
    have HB6 := hide (HB5.out.trans (hb.mono HB5.out.size))
    clear hb
    go_wp2
    go_ret
    exact ⟨rfl, HB6.out⟩
  · by_cases hla : (3000 : Int) < (a.length : Int)
    · clear hl
      go_enter Try.func4, Try.ntmps4
      go_wp2_with fail
      refine HA.out.mono ?_
      rintro e w1 ⟨rfl, hb⟩
      have HB := hide hb
      clear hb HA HRA HRB
      go_wp2
      go_ret
      exact ⟨rfl, HB.out⟩
    · have hlb : (3000 : Int) < (b.length : Int) := by omega
      clear hl
      go_enter Try.func4, Try.ntmps4
      go_wp2_with fail
      refine HA.out.mono ?_
      rintro e w1 ⟨rfl, hb⟩
      have HB := hide hb
      clear hb HA HRA HRB
      go_wp2
      go_ret
      exact ⟨rfl, HB.out⟩

theorem own : ownKnob Try.prog.godebug = none := by kernel_rfl
theorem laidOut : laidOutB Try.prog = true := by kernel_rfl

set_option linter.unusedVariables false in
set_option maxRecDepth 100000 in
theorem lifted (os : Os) (started : os.Started) (H : Type) (enc : TypeId × Value → H) :
    ReturnsInHanded {} Try.checked os 4 .any (Rows.crcJoinsSpec.pre6 enc Try.prog Try.f4 Rows.crcJoinsRow.domain false) (Rows.crcJoinsSpec.post enc Try.prog Try.f4 false true false false) := by
  refine returnsInHanded_of_change (C := Try.checked) own started (by kernel_rfl) Try.func4
    (ChangeSpec.witness6 (enc := enc) (C := Try.checked) false ⟨#[], #[.slice none 0 0, .slice none 0 0], []⟩ 8 (by kernel_rfl) (by kernel_rfl) (by kernel_rfl) (by kernel_rfl)) ?_
  intro W base args ds gs before hval0 hW hcnd _
  have hval : ∀ (j : Nat) t v, Try.f4.params[j]? = some t → args[j]? = some v → Value.okWide Try.prog W .any base t v := hval0
  have hW' := hW
  obtain ⟨p, q, hA0, hV, rfl, hfz, hnd⟩ := hW
  have hA : DataW.TrodAll enc Try.prog W 0 (fun _ => true) true Try.f4.params.toList args.toList ds p := hA0
  rw [Try.params4] at hA hval
  obtain ⟨v0, vs0, d0, ds0, p0, q0, hargs, rfl, rfl, h0, r0⟩ := trodAll_cons hA
  obtain ⟨v1, vs1, d1, ds1, p1, q1, rfl, rfl, rfl, h1, r1⟩ := trodAll_cons r0
  obtain ⟨rfl, rfl, rfl⟩ := trodAll_nil r1
  obtain rfl : args = #[v0, v1] := by cases args; simp_all
  obtain ⟨rfl, rfl⟩ := trodVars_none hV
  obtain ⟨a0, len0, cap0, rfl⟩ := okWide_slice Try.underlying23 (hval 0 23 v0 rfl rfl)
  have k0 := h0
  have lt0 : ∀ x ∈ p0, x.block < W.heap.size := by obtain ⟨m, hm⟩ := k0; exact DataW.trod_lt m _ _ _ hm
  obtain ⟨l0, w0⟩ : ∃ l, Rd W (.slice a0 len0 cap0) l := by
    obtain ⟨fuel, hf⟩ := h0
    rcases open_ints Try.underlying23 Try.underlying5 (by kernel_rfl) hf with ⟨hcs, _⟩ | ⟨x, l, c, zs, hcs, _, hl, hm, hz, _, hcell, hwz⟩
    · simp [Value.cells] at hcs
      obtain ⟨rfl, rfl, rfl⟩ := hcs
      exact ⟨[], Rd.nil _⟩
    · simp [Value.cells] at hcs
      obtain ⟨rfl, rfl, rfl⟩ := hcs
      exact ⟨_, Rd.ofRow hl hm (by simpa using hz) hcell hwz⟩
  obtain ⟨a1, len1, cap1, rfl⟩ := okWide_slice Try.underlying23 (hval 1 23 v1 rfl rfl)
  have k1 := h1
  have lt1 : ∀ x ∈ p1, x.block < W.heap.size := by obtain ⟨m, hm⟩ := k1; exact DataW.trod_lt m _ _ _ hm
  obtain ⟨l1, w1⟩ : ∃ l, Rd W (.slice a1 len1 cap1) l := by
    obtain ⟨fuel, hf⟩ := h1
    rcases open_ints Try.underlying23 Try.underlying5 (by kernel_rfl) hf with ⟨hcs, _⟩ | ⟨x, l, c, zs, hcs, _, hl, hm, hz, _, hcell, hwz⟩
    · simp [Value.cells] at hcs
      obtain ⟨rfl, rfl, rfl⟩ := hcs
      exact ⟨[], Rd.nil _⟩
    · simp [Value.cells] at hcs
      obtain ⟨rfl, rfl, rfl⟩ := hcs
      exact ⟨_, Rd.ofRow hl hm (by simpa using hz) hcell hwz⟩
  clear hA0 hval0
  refine (walk _ l0 _ l1 W w0 w1).mono fun e W' ⟨he, bel⟩ => ?_
  subst he
  exact ⟨_, rfl, _, _, _, [], _, [], hW', trodAll_mk1 (shut_bool Try.underlying4 _), (trodAll_cons_mk (Below.trod laidOut (by kernel_rfl) (of_decide_eq_true (by kernel_rfl)) k0 bel lt0) (trodAll_cons_mk (Below.trod laidOut (by kernel_rfl) (of_decide_eq_true (by kernel_rfl)) k1 bel lt1) trodAll_mk0)), rfl, bel.frame _, fun h => by cases h⟩

theorem over : Rows.crcJoinsRow.holds Try.pinned (OpenSpec.ofChange Rows.crcJoinsSpec) :=
  OpenClaim.holds_of_wide 4 Try.f4 rfl rfl rfl rfl rfl rfl rfl ⟨rfl, rfl, rfl, rfl, rfl⟩ rfl rfl rfl rfl rfl (by kernel_rfl) Try.func4 (by kernel_rfl)
    (of_decide_eq_true (by kernel_rfl)) (by unfold Func.isWrapper; first | (rw [if_pos (by decide +kernel)]; kernel_rfl) | (rw [if_neg (by decide +kernel)]; exact ⟨rfl, rfl⟩))
    (fun os started H enc _ => lifted os started H enc)

end Go.Proofs.Ythgcgpmdllcdhaa.crcJoins
namespace Go.Proofs.Ythgcgpmdllcdhaa

theorem crcJoins_holds : Rows.CrcJoinsSaid := crcJoins.over

end Go.Proofs.Ythgcgpmdllcdhaa
