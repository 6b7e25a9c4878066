/- Proved: for all bytes the law FrameOnce answers true (and the call leaves all older memory as it was). No condition. -/
import Derived.Test.YtmlagndgccdelaaFrameAwake
import Derived.OpenShut
import Derived.ChangeOld
namespace Go.Proofs.Ytmlagndgccdelaa.frameOnce
open Go.ChangeShapes Go.WideShapes Go.ChangeAt Go.RowKit

set_option maxRecDepth 100000 in
set_option maxHeartbeats 1000000 in
theorem walk (va : Value) (a : List UInt8) (w : World) (hra : Rd w va a) :
    Calls Try.prog 6 #[va] w fun e w' => e = .returned (.bool true) ∧ Below w.heap.size w w' := by
  have HA := hide (awake_any w)
  have HRA := hide hra
  obtain ⟨aa, capa, rfl, hac, hcma, _, haa⟩ := hra
  by_cases hl : (a.length : Int) ≤ 5000
  · have C1 := hide (fun w1 (hb : Below w.heap.size w w1) => decode_any _ a w1 (HRA.out.below hb (Nat.le_refl _)))
    by_cases he : (decF a).2.2 = 0
    · obtain ⟨h1, h2, h3, h4⟩ := decF_ok he
      have h5 := decF_five he
      have hna : a.length ≠ 0 := by omega
      obtain ⟨b, off, rfl⟩ : ∃ b off, aa = some ⟨b, off, none⟩ := by
        rcases haa with h | ⟨b, off, h, _⟩
        · rw [h] at hna; simp at hna
        · exact ⟨b, off, h⟩
      clear haa hna
      have C2 : Hid (∀ v w1, Rd w1 v (decF a).1 → Calls Try.prog 10 #[v] w1 fun e w' => ∃ v', e = .returned (.tuple #[v', .int .i64 0]) ∧ Rd w' v' (frameOf (decF a).1) ∧ Below w1.heap.size w1 w') := by
        intro v w1 h
        refine (encode_any v _ w1 h).mono ?_
        have e : encF (decF a).1 = (frameOf (decF a).1, 0) := if_pos h1
        rw [e]
        rintro e w' ⟨v', rfl, ho, hb⟩
        exact ⟨v', rfl, ho.rd, hb⟩
      have HT : Hid (∀ w1, Below w.heap.size w w1 → (convert 22 9 (.slice (some ⟨b, off, none⟩) (decF a).2.1 capa)).run Try.prog w1 = .ok (.string (bs (frameOf (decF a).1))) w1) := by
        intro w1 hb
        have := ((HRA.out.below hb (Nat.le_refl _)).front (decF a).2.1 h3).str
        rwa [h4] at this
      have C1' : Hid (∀ w1, Below w.heap.size w w1 → Calls Try.prog 14 #[.slice (some ⟨b, off, none⟩) a.length capa] w1 fun e w' => ∃ v', e = .returned (.tuple #[v', .int .i64 ((decF a).2.1 : Nat), .int .i64 0]) ∧ Rd w' v' (decF a).1 ∧ Below w1.heap.size w1 w') := by
        intro w1 hb
        refine (C1.out w1 hb).mono ?_
        rintro e w' ⟨v', rfl, ho, hb⟩
        rw [he]
        exact ⟨v', rfl, ho.rd, hb⟩
      clear C1 h1 h2 h4 he
      generalize frameOf (decF a).1 = F at *
      generalize (decF a).1 = x at *
      generalize (decF a).2.1 = n at *
      have bI : (n : Int) ≤ (a.length : Int) := by omega
      have bI2 : (n : Int) ≤ (capa : Int) := by omega
      clear hcma
      go_enter Try.func6, Try.ntmps6
      go_wp2_with fail
      refine HA.out.mono ?_
      rintro e w1 ⟨rfl, hb⟩
      have HB1 := hide hb
      clear hb HA
      go_wp2_with fail
      refine (C1'.out _ HB1.out).mono ?_
      rintro e w2 ⟨v2, rfl, hr2, hb2⟩
      have HB2 := hide (HB1.out.trans (hb2.mono HB1.out.size))
      have HR2 := hide hr2
      clear hb2 hr2 C1'
      go_wp2_with fail
      refine (C2.out _ _ HR2.out).mono ?_
      rintro e w3 ⟨v3, rfl, hr3, hb3⟩
      have HB3 := hide (HB2.out.trans (hb3.mono HB2.out.size))
      have HR3 := hide hr3
      clear hb3 hr3 C2 HR2
      go_upto_region 8 with fail
      go_cut [2] (fun x wc => x = .bool true ∧ Hid (Below w.heap.size w wc))
      case first =>
        have HBd : Hid (Below w.heap.size w w3.drew) := HB3.out.drew
        have HR3d : Hid (Rd w3.drew v3 F) := HR3.out.below ((Below.refl w3.heap.size w3).drew) (Nat.le_refl _)
        go_region_held (fun w' => (convert 22 9 (.slice (some ⟨b, off, none⟩) n capa)).run Try.prog w' = .ok (.string (bs F)) w' ∧ (convert 22 9 v3).run Try.prog w' = .ok (.string (bs F)) w')
          (first
            | exact ⟨HT.out _ HBd.out, HR3d.out.str⟩
            | exact ⟨HT.out _ HB3.out, HR3.out.str⟩)
          (fail)
        all_goals (go_wp2_with fail; go_meet; exact ⟨rfl, HBd⟩)
      case rest =>
      obtain ⟨rfl, HB6⟩ := hcut
      go_wp2
      go_ret
      exact ⟨rfl, HB6.out⟩
    · obtain ⟨h1, h2⟩ := decF_err he
      have C1' : Hid (∀ w1, Below w.heap.size w w1 → Calls Try.prog 14 #[.slice aa a.length capa] w1 fun e w' => ∃ ao cap, e = .returned (.tuple #[.slice ao 0 cap, .int .i64 0, .int .i64 ((decF a).2.2 : Nat)]) ∧ Below w1.heap.size w1 w') := by
        intro w1 hb
        refine (C1.out w1 hb).mono ?_
        rintro e w' ⟨v', rfl, ho, hb⟩
        rw [h1] at ho
        obtain ⟨ao, cap, rfl, _⟩ := ho.rd
        rw [h2]
        exact ⟨ao, cap, rfl, hb⟩
      clear C1 h1 h2
      generalize (decF a).2.2 = c at *
      have hne : ((c : Int) != 0) = true := by rw [bne_iff_ne]; omega
      clear he haa
      go_enter Try.func6, Try.ntmps6
      go_wp2_with fail
      refine HA.out.mono ?_
      rintro e w1 ⟨rfl, hb⟩
      have HB1 := hide hb
      clear hb HA
      go_wp2_with fail
      refine (C1'.out _ HB1.out).mono ?_
      rintro e w2 ⟨ao, cap, rfl, hb2⟩
      have HB2 := hide (HB1.out.trans (hb2.mono HB1.out.size))
      clear hb2 C1'
      go_wp2
      go_ret
      exact ⟨rfl, HB2.out⟩
  · go_enter Try.func6, Try.ntmps6
    go_wp2_with fail
    refine HA.out.mono ?_
    rintro e w1 ⟨rfl, hb⟩
    have HB1 := hide hb
    clear hb HA
    go_wp2
    go_ret
    exact ⟨rfl, HB1.out⟩

theorem own : ownKnob Try.prog.godebug = none := by kernel_rfl
theorem laidOut : laidOutB Try.prog = true := by kernel_rfl

set_option linter.unusedVariables false in
set_option maxRecDepth 100000 in
theorem lifted (os : Os) (started : os.Started) (H : Type) (enc : TypeId × Value → H) :
    ReturnsInHanded {} Try.checked os 6 .any (Rows.frameOnceSpec.pre6 enc Try.prog Try.f6 Rows.frameOnceRow.domain false) (Rows.frameOnceSpec.post enc Try.prog Try.f6 false true false false) := by
  refine returnsInHanded_of_change (C := Try.checked) own started (by kernel_rfl) Try.func6
    (ChangeSpec.witness6 (enc := enc) (C := Try.checked) false ⟨#[], #[.slice none 0 0], []⟩ 8 (by kernel_rfl) (by kernel_rfl) (by kernel_rfl) (by kernel_rfl)) ?_
  intro W base args ds gs before hval0 hW hcnd _
  have hval : ∀ (j : Nat) t v, Try.f6.params[j]? = some t → args[j]? = some v → Value.okWide Try.prog W .any base t v := hval0
  have hW' := hW
  obtain ⟨p, q, hA0, hV, rfl, hfz, hnd⟩ := hW
  have hA : DataW.TrodAll enc Try.prog W 0 (fun _ => true) true Try.f6.params.toList args.toList ds p := hA0
  rw [Try.params6] at hA hval
  obtain ⟨v0, vs0, d0, ds0, p0, q0, hargs, rfl, rfl, h0, r0⟩ := trodAll_cons hA
  obtain ⟨rfl, rfl, rfl⟩ := trodAll_nil r0
  obtain rfl : args = #[v0] := by cases args; simp_all
  obtain ⟨rfl, rfl⟩ := trodVars_none hV
  obtain ⟨a0, len0, cap0, rfl⟩ := okWide_slice Try.underlying22 (hval 0 22 v0 rfl rfl)
  have k0 := h0
  have lt0 : ∀ x ∈ p0, x.block < W.heap.size := by obtain ⟨m, hm⟩ := k0; exact DataW.trod_lt m _ _ _ hm
  obtain ⟨l0, w0⟩ : ∃ l, Rd W (.slice a0 len0 cap0) l := by
    obtain ⟨fuel, hf⟩ := h0
    rcases open_ints Try.underlying22 Try.underlying5 (by kernel_rfl) hf with ⟨hcs, _⟩ | ⟨x, l, c, zs, hcs, _, hl, hm, hz, _, hcell, hwz⟩
    · simp [Value.cells] at hcs
      obtain ⟨rfl, rfl, rfl⟩ := hcs
      exact ⟨[], Rd.nil _⟩
    · simp [Value.cells] at hcs
      obtain ⟨rfl, rfl, rfl⟩ := hcs
      exact ⟨_, Rd.ofRow hl hm (by simpa using hz) hcell hwz⟩
  clear hA0 hval0
  refine (walk _ l0 W w0).mono fun e W' ⟨he, bel⟩ => ?_
  subst he
  exact ⟨_, rfl, _, _, _, [], _, [], hW', trodAll_mk1 (shut_bool Try.underlying4 _), (trodAll_cons_mk (Below.trod laidOut (by kernel_rfl) (of_decide_eq_true (by kernel_rfl)) k0 bel lt0) trodAll_mk0), rfl, bel.frame _, fun h => by cases h⟩

theorem over : Rows.frameOnceRow.holds Try.pinned (OpenSpec.ofChange Rows.frameOnceSpec) :=
  OpenClaim.holds_of_wide 6 Try.f6 rfl rfl rfl rfl rfl rfl rfl ⟨rfl, rfl, rfl, rfl, rfl⟩ rfl rfl rfl rfl rfl (by kernel_rfl) Try.func6 (by kernel_rfl)
    (of_decide_eq_true (by kernel_rfl)) (by unfold Func.isWrapper; first | (rw [if_pos (by decide +kernel)]; kernel_rfl) | (rw [if_neg (by decide +kernel)]; exact ⟨rfl, rfl⟩))
    (fun os started H enc _ => lifted os started H enc)

end Go.Proofs.Ytmlagndgccdelaa.frameOnce
namespace Go.Proofs.Ytmlagndgccdelaa

theorem frameOnce_holds : Rows.FrameOnceSaid := frameOnce.over

end Go.Proofs.Ytmlagndgccdelaa
