/- Proved: for every sum, all bytes and every byte the law CrcSums answers true (and the call leaves all older memory as it was). No condition. -/
import Derived.Test.YthgcgpmdllcdhaaCrcAwake
import Derived.OpenShut
import Derived.ChangeOld
import Derived.Deep.RegionHeld
import Derived.Deep.DeepCutAuto
namespace Go.Proofs.Ythgcgpmdllcdhaa.crcSums
open Go.ChangeShapes Go.WideShapes Go.ChangeAt Go.RowKit

set_option maxRecDepth 100000 in
set_option maxHeartbeats 2000000 in
theorem walk (s : Int) (v : Value) (l : List UInt8) (x : Int) (w : World) (w0 : (Lit.int .u32 s).wf = true) (hr : Rd w v l) (w2 : (Lit.int .u8 x).wf = true) :
    Calls Try.prog 3 #[.int .u32 s, v, .int .u8 x] w fun e w' => e = .returned (.bool true) ∧ Below w.heap.size w w' := by
  obtain ⟨hs0, hs1⟩ := u32_bd w0
  obtain ⟨hx0, hx1⟩ := u8_bd w2
  clear w0 w2
  obtain ⟨a, rfl⟩ : ∃ a : Nat, x = (a : Int) := Int.eq_ofNat_of_zero_le hx0
  obtain ⟨S, hS⟩ : ∃ S : Nat, s = (S : Int) := Int.eq_ofNat_of_zero_le hs0
  have ha : (a : Int) < 256 := by omega
  have HA := hide (awake_any w)
  have HT := hide (fun w => table_any w)
  have hz := (zero_of_info tab_zero).1
  have HR := hide hr
  obtain ⟨ao, cap, rfl, hlc, hcm, _, _⟩ := hr
  by_cases hl : (3000 : Int) < (l.length : Int)
  · clear hz HT hS
    go_enter Try.func3, Try.ntmps3
    go_wp2_with fail
    refine HA.out.mono ?_
    rintro e w1 ⟨rfl, hb⟩
    have HB := hide hb
    clear hb HA HR
    go_wp2
    go_ret
    exact ⟨rfl, HB.out⟩
  · have C1 : Hid (∀ w1, Below w.heap.size w w1 → Calls Try.prog 11 #[.slice ao l.length cap] w1 fun e w' => e = .returned (.int .u32 (crcMore 0 l : Nat)) ∧ Below w1.heap.size w1 w') := fun w1 hb => sum_any _ l w1 (HR.out.below hb (Nat.le_refl _))
    have C2 : Hid (∀ w1, Below w.heap.size w w1 → Calls Try.prog 12 #[.slice ao l.length cap] w1 fun e w' => e = .returned (.int .u32 (crcMore 0 l : Nat)) ∧ w' = w1) := fun w1 hb => refSum_any _ l w1 (HR.out.below hb (Nat.le_refl _))
    have C3 : Hid (∀ w1, Below w.heap.size w w1 → Calls Try.prog 13 #[.int .u32 s, .slice ao l.length cap] w1 fun e w' => e = .returned (.int .u32 (crcMore S l : Nat)) ∧ Below w1.heap.size w1 w') := by
      intro w1 hb; rw [hS]; exact more_any S _ l w1 (HR.out.below hb (Nat.le_refl _)) (by omega)
    have C4 : Hid (∀ w1, Below w.heap.size w w1 → Calls Try.prog 14 #[.int .u32 s, .slice ao l.length cap] w1 fun e w' => e = .returned (.int .u32 (crcMore S l : Nat)) ∧ w' = w1) := by
      intro w1 hb; rw [hS]; exact refMore_any S _ l w1 (HR.out.below hb (Nat.le_refl _)) (by omega)
    have C5 := hide (fun w1 => refEntry_any a w1 (by omega))
    clear hS
    generalize crcMore 0 l = X at *
    generalize crcMore S l = Y at *
    go_enter Try.func3, Try.ntmps3
    go_wp2_with fail
    refine HA.out.mono ?_
    rintro e w1 ⟨rfl, hb⟩
    have HB1 := hide hb
    clear hb HA
    go_wp2_with fail
    refine (HT.out _).mono ?_
    rintro e w2 ⟨rfl, hb⟩
    have HB2 := hide (HB1.out.trans (hb.mono HB1.out.size))
    clear hb HT
    go_wp2_with (refine wpList_keep_tab _ rfl _ _ rfl rfl rfl ?_)
    intro w3 hb3 ht3
    have HB3 := hide (HB2.out.trans (hb3.mono HB2.out.size))
    have HT3 := hide (ht3.below (Below.drew (Below.refl w3.heap.size w3)) (Nat.le_refl _))
    have HT3' := hide ht3
    clear hb3 ht3
    go_upto_region 5 with fail
    go_cut [6] (fun x wc => x = .bool true ∧ Hid (Below w.heap.size w wc))
    case first =>
      have HB3d := hide HB3.out.drew
      go_region_held (fun w' => w'.cell? ⟨w2.heap.size, a, none⟩ = some (.int .u32 ((entry a : Nat) : Int)))
        (first
          | exact HT5.out a (by omega)
          | exact HT4.out a (by omega)
          | exact HT3.out a (by omega)
          | exact HT3'.out a (by omega))
        (first
          | (go_at_call 11; refine (C1.out _ HB3d.out).mono ?_; rintro e w4 ⟨rfl, hb4⟩; have HB4 := hide (HB3d.out.trans (hb4.mono HB3d.out.size)); have HT4 := hide (HT3.out.below hb4 (Nat.le_refl _)); clear hb4)
          | (go_at_call 12; refine (C2.out _ HB4.out).mono ?_; rintro e w4' ⟨rfl, rfl⟩)
          | (go_at_call 13; refine (C3.out _ HB4.out).mono ?_; rintro e w5 ⟨rfl, hb5⟩; have HB5 := hide (HB4.out.trans (hb5.mono HB4.out.size)); have HT5 := hide (HT4.out.below hb5 (Nat.le_refl _)); clear hb5)
          | (go_at_call 14; refine (C4.out _ HB5.out).mono ?_; rintro e w5' ⟨rfl, rfl⟩)
          | (go_at_call 15; refine (C5.out _).mono ?_; rintro e w6 ⟨rfl, rfl⟩))
      all_goals (go_wp2_with fail; go_meet; exact ⟨rfl, HB5⟩)
    case rest =>
    obtain ⟨rfl, HB6⟩ := hcut
    go_wp2
    go_ret
    exact ⟨rfl, HB6.out⟩

theorem own : ownKnob Try.prog.godebug = none := by kernel_rfl
theorem laidOut : laidOutB Try.prog = true := by kernel_rfl

set_option linter.unusedVariables false in
set_option maxRecDepth 100000 in
theorem lifted (os : Os) (started : os.Started) (H : Type) (enc : TypeId × Value → H) :
    ReturnsInHanded {} Try.checked os 3 .any (Rows.crcSumsSpec.pre6 enc Try.prog Try.f3 Rows.crcSumsRow.domain false) (Rows.crcSumsSpec.post enc Try.prog Try.f3 false true false false) := by
  refine returnsInHanded_of_change (C := Try.checked) own started (by kernel_rfl) Try.func3
    (ChangeSpec.witness6 (enc := enc) (C := Try.checked) false ⟨#[], #[.int .u32 0, .slice none 0 0, .int .u8 0], []⟩ 8 (by kernel_rfl) (by kernel_rfl) (by kernel_rfl) (by kernel_rfl)) ?_
  intro W base args ds gs before hval0 hW hcnd _
  have hval : ∀ (j : Nat) t v, Try.f3.params[j]? = some t → args[j]? = some v → Value.okWide Try.prog W .any base t v := hval0
  have hW' := hW
  obtain ⟨p, q, hA0, hV, rfl, hfz, hnd⟩ := hW
  have hA : DataW.TrodAll enc Try.prog W 0 (fun _ => true) true Try.f3.params.toList args.toList ds p := hA0
  rw [Try.params3] at hA hval
  obtain ⟨v0, vs0, d0, ds0, p0, q0, hargs, rfl, rfl, h0, r0⟩ := trodAll_cons hA
  obtain ⟨v1, vs1, d1, ds1, p1, q1, rfl, rfl, rfl, h1, r1⟩ := trodAll_cons r0
  obtain ⟨v2, vs2, d2, ds2, p2, q2, rfl, rfl, rfl, h2, r2⟩ := trodAll_cons r1
  obtain ⟨rfl, rfl, rfl⟩ := trodAll_nil r2
  obtain rfl : args = #[v0, v1, v2] := by cases args; simp_all
  obtain ⟨rfl, rfl⟩ := trodVars_none hV
  obtain ⟨a0, rfl, rfl, rfl, w0⟩ := open_int Try.underlying22 (hval 0 22 v0 rfl rfl) h0
  obtain ⟨a1, len1, cap1, rfl⟩ := okWide_slice Try.underlying23 (hval 1 23 v1 rfl rfl)
  have k1 := h1
  have lt1 : ∀ x ∈ p1, x.block < W.heap.size := by obtain ⟨m, hm⟩ := k1; exact DataW.trod_lt m _ _ _ hm
  obtain ⟨l1, w1⟩ : ∃ l, Rd W (.slice a1 len1 cap1) l := by
    obtain ⟨fuel, hf⟩ := h1
    rcases open_ints Try.underlying23 Try.underlying5 (by kernel_rfl) hf with ⟨hcs, _⟩ | ⟨x, l, c, zs, hcs, _, hl, hm, hz, _, hcell, hwz⟩
    · simp [Value.cells] at hcs
      obtain ⟨rfl, rfl, rfl⟩ := hcs
      exact ⟨[], Rd.nil _⟩
    · simp [Value.cells] at hcs
      obtain ⟨rfl, rfl, rfl⟩ := hcs
      exact ⟨_, Rd.ofRow hl hm (by simpa using hz) hcell hwz⟩
  obtain ⟨a2, rfl, rfl, rfl, w2⟩ := open_int Try.underlying5 (hval 2 5 v2 rfl rfl) h2
  clear hA0 hval0
  refine (walk a0 _ l1 a2 W w0 w1 w2).mono fun e W' ⟨he, bel⟩ => ?_
  subst he
  exact ⟨_, rfl, _, _, _, [], _, [], hW', trodAll_mk1 (shut_bool Try.underlying4 _), (trodAll_cons_mk (shut_int Try.underlying22 w0) (trodAll_cons_mk (Below.trod laidOut (by kernel_rfl) (of_decide_eq_true (by kernel_rfl)) k1 bel lt1) (trodAll_cons_mk (shut_int Try.underlying5 w2) trodAll_mk0))), rfl, bel.frame _, fun h => by cases h⟩

theorem over : Rows.crcSumsRow.holds Try.pinned (OpenSpec.ofChange Rows.crcSumsSpec) :=
  OpenClaim.holds_of_wide 3 Try.f3 rfl rfl rfl rfl rfl rfl rfl ⟨rfl, rfl, rfl, rfl, rfl⟩ rfl rfl rfl rfl rfl (by kernel_rfl) Try.func3 (by kernel_rfl)
    (of_decide_eq_true (by kernel_rfl)) (by unfold Func.isWrapper; first | (rw [if_pos (by decide +kernel)]; kernel_rfl) | (rw [if_neg (by decide +kernel)]; exact ⟨rfl, rfl⟩))
    (fun os started H enc _ => lifted os started H enc)

end Go.Proofs.Ythgcgpmdllcdhaa.crcSums
namespace Go.Proofs.Ythgcgpmdllcdhaa

theorem crcSums_holds : Rows.CrcSumsSaid := crcSums.over

end Go.Proofs.Ythgcgpmdllcdhaa
