/- Proved: for every two bytes the law CrcEntries answers true (and the call leaves all older memory as it was). No condition. -/
import Derived.Test.YthgcgpmdllcdhaaCrcAwake
import Derived.OpenShut
import Derived.ChangeOld
import Derived.Deep.QuietTactic
import Derived.BigQuiet
import Derived.WalkSmall
namespace Go.Proofs.Ythgcgpmdllcdhaa.crcEntries
open Go.ChangeShapes Go.WideShapes Go.ChangeAt Go.RowKit

set_option maxRecDepth 100000 in
set_option maxHeartbeats 1000000 in
theorem walk (x y : Int) (w : World) (w0 : (Lit.int .u8 x).wf = true) (w1 : (Lit.int .u8 y).wf = true) :
    Calls Try.prog 8 #[.int .u8 x, .int .u8 y] w fun e w' => e = .returned (.bool true) ∧ Below w.heap.size w w' := by
  obtain ⟨hx0, hx1⟩ := u8_bd w0
  obtain ⟨hy0, hy1⟩ := u8_bd w1
  clear w0 w1
  obtain ⟨a, rfl⟩ : ∃ a : Nat, x = (a : Int) := Int.eq_ofNat_of_zero_le hx0
  obtain ⟨b, rfl⟩ : ∃ b : Nat, y = (b : Int) := Int.eq_ofNat_of_zero_le hy0
  have ha : (a : Int) < 256 := by omega
  have hb' : (b : Int) < 256 := by omega
  have HX := hide (xor_u8 a b (by omega) (by omega))
  have hm' : a ^^^ b < 256 := by
    have : a ^^^ b < 2 ^ 8 := Nat.xor_lt_two_pow (by omega) (by omega)
    omega
  have HE : Hid (bits .xor .u32 ((entry a : Nat) : Int) ((entry b : Nat) : Int) = ((entry (a ^^^ b) : Nat) : Int)) := by
    have e : entry (a ^^^ b) = entry a ^^^ entry b := ticks_xor 8 a b
    rw [e]
    exact xor_u32 _ _ (entry_lt a (by omega)) (entry_lt b (by omega))
  have HN : Hid (entry a = entry b → a = b) := fun h => ticks_inj 8 (by omega) (by omega) h
  have hm : ((a ^^^ b : Nat) : Int) < 256 := by omega
  generalize a ^^^ b = m at *
  have HA := hide (awake_any w)
  have HT := hide (fun w => table_any w)
  have hz := (zero_of_info tab_zero).1
  go_enter Try.func8, Try.ntmps8
  go_wp2_with fail
  refine HA.out.mono ?_
  rintro e w1 ⟨rfl, hb⟩
  have HB1 := hide hb
  clear hb HA
  go_wp2_with fail
  refine (HT.out _).mono ?_
  rintro e w2 ⟨rfl, hb⟩
  have HB2 := hide (HB1.out.trans (hb.mono HB1.out.size))
  clear hb HT
  go_wp2_with (refine wpList_keep_tab _ rfl _ _ rfl rfl rfl ?_)
  intro w3 hb3 ht3
  have HB3 := hide (HB2.out.trans (hb3.mono HB2.out.size))
  have HT3 := hide ht3
  clear hb3 ht3
  have c1 := HT3.out a (by omega)
  have c2 := HT3.out b (by omega)
  have c3 := HT3.out m (by omega)
  have c0 : w3.cell? ⟨w2.heap.size, 0, none⟩ = some (.int .u32 0) := HT3.out 0 (by decide)
  have hx := HX.out
  have he := HE.out
  generalize hEA : ((entry a : Nat) : Int) = EA at *
  generalize hEB : ((entry b : Nat) : Int) = EB at *
  generalize ((entry m : Nat) : Int) = EM at *
  by_cases hab : a = b
  · have hq : ((a : Int) == (b : Int)) = true := beq_iff_eq.2 (by omega)
    clear hab HN HT3 HX HE hEA hEB hm'
    go_wp2_with fail
    go_quiet (fail)
    go_wp2
    go_ret
    exact ⟨rfl, below_drewN HB3.out _⟩
  · have hq : ((a : Int) == (b : Int)) = false := beq_eq_false_iff_ne.2 (by omega)
    have hne : (EA != EB) = true := by
      rw [bne_iff_ne]
      intro h
      exact hab (HN.out (by omega))
    clear hab HN HT3 HX HE hEA hEB hm'
    go_wp2_with fail
    go_quiet (fail)
    go_wp2
    go_ret
    exact ⟨rfl, below_drewN HB3.out _⟩

theorem own : ownKnob Try.prog.godebug = none := by kernel_rfl
theorem laidOut : laidOutB Try.prog = true := by kernel_rfl

set_option linter.unusedVariables false in
set_option maxRecDepth 100000 in
theorem lifted (os : Os) (started : os.Started) (H : Type) (enc : TypeId × Value → H) :
    ReturnsInHanded {} Try.checked os 8 .any (Rows.crcEntriesSpec.pre6 enc Try.prog Try.f8 Rows.crcEntriesRow.domain false) (Rows.crcEntriesSpec.post enc Try.prog Try.f8 false true false false) := by
  refine returnsInHanded_of_change (C := Try.checked) own started (by kernel_rfl) Try.func8
    (ChangeSpec.witness6 (enc := enc) (C := Try.checked) false ⟨#[], #[.int .u8 0, .int .u8 0], []⟩ 8 (by kernel_rfl) (by kernel_rfl) (by kernel_rfl) (by kernel_rfl)) ?_
  intro W base args ds gs before hval0 hW hcnd _
  have hval : ∀ (j : Nat) t v, Try.f8.params[j]? = some t → args[j]? = some v → Value.okWide Try.prog W .any base t v := hval0
  have hW' := hW
  obtain ⟨p, q, hA0, hV, rfl, hfz, hnd⟩ := hW
  have hA : DataW.TrodAll enc Try.prog W 0 (fun _ => true) true Try.f8.params.toList args.toList ds p := hA0
  rw [Try.params8] at hA hval
  obtain ⟨v0, vs0, d0, ds0, p0, q0, hargs, rfl, rfl, h0, r0⟩ := trodAll_cons hA
  obtain ⟨v1, vs1, d1, ds1, p1, q1, rfl, rfl, rfl, h1, r1⟩ := trodAll_cons r0
  obtain ⟨rfl, rfl, rfl⟩ := trodAll_nil r1
  obtain rfl : args = #[v0, v1] := by cases args; simp_all
  obtain ⟨rfl, rfl⟩ := trodVars_none hV
  obtain ⟨a0, rfl, rfl, rfl, w0⟩ := open_int Try.underlying5 (hval 0 5 v0 rfl rfl) h0
  obtain ⟨a1, rfl, rfl, rfl, w1⟩ := open_int Try.underlying5 (hval 1 5 v1 rfl rfl) h1
  clear hA0 hval0
  refine (walk a0 a1 W w0 w1).mono fun e W' ⟨he, bel⟩ => ?_
  subst he
  exact ⟨_, rfl, _, _, _, [], _, [], hW', trodAll_mk1 (shut_bool Try.underlying4 _), (trodAll_cons_mk (shut_int Try.underlying5 w0) (trodAll_cons_mk (shut_int Try.underlying5 w1) trodAll_mk0)), rfl, bel.frame _, fun h => by cases h⟩

theorem over : Rows.crcEntriesRow.holds Try.pinned (OpenSpec.ofChange Rows.crcEntriesSpec) :=
  OpenClaim.holds_of_wide 8 Try.f8 rfl rfl rfl rfl rfl rfl rfl ⟨rfl, rfl, rfl, rfl, rfl⟩ rfl rfl rfl rfl rfl (by kernel_rfl) Try.func8 (by kernel_rfl)
    (of_decide_eq_true (by kernel_rfl)) (by unfold Func.isWrapper; first | (rw [if_pos (by decide +kernel)]; kernel_rfl) | (rw [if_neg (by decide +kernel)]; exact ⟨rfl, rfl⟩))
    (fun os started H enc _ => lifted os started H enc)

end Go.Proofs.Ythgcgpmdllcdhaa.crcEntries
namespace Go.Proofs.Ythgcgpmdllcdhaa

theorem crcEntries_holds : Rows.CrcEntriesSaid := crcEntries.over

end Go.Proofs.Ythgcgpmdllcdhaa
