/- Proved: for all processes, numbers and first indices the law BlockShort answers true (and the call leaves all older memory as it was). No condition. -/
import Derived.Test.YtgmdhlchdjlgnaaBlockAwake
import Derived.Test.YtgmdhlchdjlgnaaOpenBlock
import Derived.Test.YtgmdhlchdjlgnaaBlockShortP
import Derived.OpenShut
import Derived.ChangeOld
namespace Go.Proofs.Ytgmdhlchdjlgnaa.blockShort
open Go.ChangeShapes Go.WideShapes Go.ChangeAt Go.RowKit

set_option maxRecDepth 100000 in
set_option maxHeartbeats 2000000 in
theorem walk (p : Int) (n : Int) (f : Int) (w : World) (_hp : (Lit.int .i64 p).wf = true) (_hn : (Lit.int .i64 n).wf = true) (_hf : (Lit.int .i64 f).wf = true) :
    Calls Try.prog 8 #[.int .i64 p, .int .i64 n, .int .i64 f] w fun e w' => e = .returned (.bool true) ∧ Below w.heap.size w w' := by
  have HA := hide (fun w => awake7_any w)
  by_cases h1 : p < 0
  · skip
    go_enter Try.func8, Try.ntmps8
    go_wp2_with fail
    refine (HA.out _).mono ?_
    rintro e W1 ⟨rfl, hb1⟩
    have HB1 := hide hb1
    clear hb1 HA
    go_wp2
    go_ret
    exact ⟨rfl, HB1.out⟩
  by_cases h2 : 64 < p
  · skip
    go_enter Try.func8, Try.ntmps8
    go_wp2_with fail
    refine (HA.out _).mono ?_
    rintro e W1 ⟨rfl, hb1⟩
    have HB1 := hide hb1
    clear hb1 HA
    go_wp2
    go_ret
    exact ⟨rfl, HB1.out⟩
  by_cases h3 : n < 1
  · skip
    go_enter Try.func8, Try.ntmps8
    go_wp2_with fail
    refine (HA.out _).mono ?_
    rintro e W1 ⟨rfl, hb1⟩
    have HB1 := hide hb1
    clear hb1 HA
    go_wp2
    go_ret
    exact ⟨rfl, HB1.out⟩
  by_cases h4 : 200 < n
  · skip
    go_enter Try.func8, Try.ntmps8
    go_wp2_with fail
    refine (HA.out _).mono ?_
    rintro e W1 ⟨rfl, hb1⟩
    have HB1 := hide hb1
    clear hb1 HA
    go_wp2
    go_ret
    exact ⟨rfl, HB1.out⟩
  by_cases h5 : f < 0
  · skip
    go_enter Try.func8, Try.ntmps8
    go_wp2_with fail
    refine (HA.out _).mono ?_
    rintro e W1 ⟨rfl, hb1⟩
    have HB1 := hide hb1
    clear hb1 HA
    go_wp2
    go_ret
    exact ⟨rfl, HB1.out⟩
  by_cases h6 : 1000 < f
  · skip
    go_enter Try.func8, Try.ntmps8
    go_wp2_with fail
    refine (HA.out _).mono ?_
    rintro e W1 ⟨rfl, hb1⟩
    have HB1 := hide hb1
    clear hb1 HA
    go_wp2
    go_ret
    exact ⟨rfl, HB1.out⟩
  obtain ⟨N, hN⟩ : ∃ N : Nat, n = (N : Int) := ⟨n.toNat, by omega⟩
  subst hN
  have HFB : Hid (∀ k, 1 ≤ k → k ≤ 200 → FitsB (shortL f p k)) := hide (fun k k1 k2 => shortL_fitsB (by omega) (by omega) (by omega) (by omega) k1 k2)
  have HOK : Hid (∀ k, k ≤ 200 → ∀ r ∈ shortL f p k, RecOk r) := hide (fun k hk r hr => by
    have hf := shortL_fits (first := f) (proc := p) (by omega) (by omega) (by omega) (by omega) k hk r hr
    obtain ⟨ho, a1, a2, a3, a4, a5, a6, a7, a8⟩ := hf
    have hi := fits_i64 ho
    have hc0 := ho.1
    have hc1 := ho.2.1
    exact ⟨⟨by omega, by omega⟩, ⟨by omega, by omega⟩, ⟨by omega, by omega⟩, ⟨⟨by omega, by omega⟩, hi.1, hi.2⟩, ⟨by omega, by omega⟩⟩)
  have HLN : Hid ((encB (shortL f p N)).length = (encB ((shortL f p N).take 1)).length + (if 127 < N then 1 else 0) + 6 * (N - 1)) := hide (short_len (by omega) (by omega) (by omega) (by omega))
  have HT1 : Hid (FitsB ((shortL f p N).take 1)) := hide (by
    obtain ⟨m, rfl⟩ : ∃ m, N = m + 1 := ⟨N - 1, by omega⟩
    rw [short_take]
    exact HFB.out 1 (by omega) (by omega))
  have HSL := hide (fun k => shortL_length f p k)
  have HB1L := hide (encB_len HT1.out)
  have HEN := hide (fun v1 l W (h : RdR W v1 l) (hl : l.length ≤ 300) => blockEncode_any v1 l W h hl)
  unfold EncodedB at HEN
  go_enter Try.func8, Try.ntmps8
  go_wp2_with fail
  refine (HA.out _).mono ?_
  rintro e W1 ⟨rfl, hb1⟩
  have HB1 := hide hb1
  clear hb1 HA
  go_wp2
  go_loopw [8, 9] (fun vl vi wr => ∃ k : Nat, vi = .int .i64 (k : Int) ∧ k ≤ N ∧ Hid (OwnR wr w.heap.size vl (shortL f p k)) ∧ Hid (Below w.heap.size w wr)) (fun _ vi _ => N - (intOf vi).toNat)
  case atStart => exact ⟨0, rfl, Nat.zero_le _, OwnR.nil _ _, HB1⟩
  case round =>
    clear HB1
    obtain ⟨k, rfl, hk, hO, hB⟩ := hrel
    obtain ⟨al, cl, rfl⟩ := hO.out.shape
    by_cases hlt : k < N
    · have hki : (k : Int) < (N : Int) := by omega
      have hs := HSL.out k
      have HLL : Hid ((shortL f p k).length ≤ 1000000) := hide (by omega)
      have HSB := hide hB.out.size
      have HNX : Hid (shortL f p (k + 1) = shortL f p k ++ [⟨f + (k : Int), p, 1 + (k : Int), ⟨0, 0, 0⟩, 0⟩]) := rfl
      clear hs
      generalize shortL f p k = L at *
      go_wp2_with (at_builtin; refine wpList_append_rec wr rfl _ _ rfl w.heap.size (.slice al L.length cl) L rfl hO.out ⟨f + (k : Int), p, 1 + (k : Int), ⟨0, 0, 0⟩, 0⟩ rfl HLL.out HSB.out ?_)
      intro v6 W6 ho6 hb6
      rw [← HNX.out] at ho6
      have HO6 := hide ho6
      have HB6 := hide (hB.out.trans hb6)
      clear ho6 hb6
      go_wp2
      go_roundw
      case rel => exact ⟨k + 1, by go_num, by omega, HO6, HB6⟩
      case measure => simp [intOf]; omega
    · obtain rfl : k = N := by omega
      have hnlt : ¬ (k : Int) < (k : Int) := by omega
      have HRD := hide (hO.out.rd (HOK.out k (by omega)))
      have hlen := HSL.out k
      have hcap : (shortL f p k).length ≤ cl := by
        obtain ⟨_, _, hv, h, _⟩ := HRD.out
        simp only [Value.slice.injEq] at hv
        omega
      have HR1 : Hid (∀ W, Below wr.heap.size wr W → RdR W (.slice al 1 cl) ((shortL f p k).take 1)) := hide (fun W h => (HRD.out.below h (Nat.le_refl _)).front 1 (by omega))
      have hcut : ∀ W, (Instr.sliceAt 22 (.slice al (shortL f p k).length cl) none (some (.int .i64 1)) none).run Try.prog W = .ok (.slice al 1 cl) W := fun W => run_front_recs W _ _ _ _ 1 rfl (by omega)
      have HE1 := hide (HEN.out _ (shortL f p k) wr HRD.out (by omega))
      have HE2 := hide (fun W (h : RdR W (.slice al 1 cl) ((shortL f p k).take 1)) => HEN.out _ ((shortL f p k).take 1) W h (by rw [List.length_take]; omega))
      simp only [if_pos (HFB.out k (by omega) (by omega))] at HE1
      simp only [if_pos HT1.out] at HE2
      clear HEN HFB HOK HSL HT1 hlen hcap
      have HLN2 : Hid (((encB (shortL f p k)).length : Int) = ((encB ((shortL f p k).take 1)).length : Int) + (if 127 < k then 1 else 0) + 6 * ((k : Int) - 1)) := hide (by
        rw [HLN.out]
        split <;> omega)
      have hB1 : (encB ((shortL f p k).take 1)).length ≤ 100000 := HB1L.out
      clear HLN
      generalize hB2 : encB ((shortL f p k).take 1) = E1 at *
      generalize encB (shortL f p k) = E at *
      generalize shortL f p k = L at *
      clear hB2
      go_wp2_with fail
      refine HE1.out.mono ?_
      rintro e W2 ⟨v2, rfl, ho2, hb2⟩
      obtain ⟨a2, c2, rfl, -⟩ := ho2.rd
      have HB2 := hide (hB.out.trans (hb2.mono hB.out.size))
      have HRX := hide (HR1.out W2 hb2)
      clear ho2 hb2 HE1
      go_wp2_with fail
      refine (HE2.out _ HRX.out).mono ?_
      rintro e W3 ⟨v3, rfl, ho3, hb3⟩
      obtain ⟨a3, c3, rfl, -⟩ := ho3.rd
      have HB3 := hide (HB2.out.trans (hb3.mono HB2.out.size))
      clear ho3 hb3 HE2 HB2 HRX HR1
      have hLN := HLN2.out
      by_cases hbig : 127 < k
      · have hbig' : 127 < (k : Int) := by omega
        rw [if_pos hbig] at hLN
        have heq : ((E.length : Int) == (E1.length : Int) + 1 + 6 * ((k : Int) - 1)) = true := by rw [beq_iff_eq]; exact hLN
        clear hbig hLN HLN2
        go_wp2
        go_ret
        exact ⟨rfl, HB3.out⟩
      · have hbig' : ¬ 127 < (k : Int) := by omega
        rw [if_neg hbig] at hLN
        have heq : ((E.length : Int) == (E1.length : Int) + 6 * ((k : Int) - 1)) = true := by rw [beq_iff_eq]; omega
        clear hbig hLN HLN2
        go_wp2
        go_ret
        exact ⟨rfl, HB3.out⟩

theorem own : ownKnob Try.prog.godebug = none := by kernel_rfl
theorem laidOut : laidOutB Try.prog = true := by kernel_rfl

set_option linter.unusedVariables false in
set_option maxRecDepth 100000 in
theorem lifted (os : Os) (started : os.Started) (H : Type) (enc : TypeId × Value → H) :
    ReturnsInHanded {} Try.checked os 8 .any (Rows.blockShortSpec.pre6 enc Try.prog Try.f8 Rows.blockShortRow.domain false) (Rows.blockShortSpec.post enc Try.prog Try.f8 false true false false) := by
  refine returnsInHanded_of_change (C := Try.checked) own started (by kernel_rfl) Try.func8
    (ChangeSpec.witness6 (enc := enc) (C := Try.checked) false ⟨#[], #[.int .i64 0, .int .i64 0, .int .i64 0], []⟩ 8 (by kernel_rfl) (by kernel_rfl) (by kernel_rfl) (by kernel_rfl)) ?_
  intro W base args ds gs before hval0 hW hcnd _
  have hval : ∀ (j : Nat) t v, Try.f8.params[j]? = some t → args[j]? = some v → Value.okWide Try.prog W .any base t v := hval0
  have hW' := hW
  obtain ⟨p, q, hA0, hV, rfl, hfz, hnd⟩ := hW
  have hA : DataW.TrodAll enc Try.prog W 0 (fun _ => true) true Try.f8.params.toList args.toList ds p := hA0
  rw [Try.params8] at hA hval
  obtain ⟨v0, vs0, d0, ds0, p0, q0, hargs, rfl, rfl, h0, r0⟩ := trodAll_cons hA
  obtain ⟨v1, vs1, d1, ds1, p1, q1, rfl, rfl, rfl, h1, r1⟩ := trodAll_cons r0
  obtain ⟨v2, vs2, d2, ds2, p2, q2, rfl, rfl, rfl, h2, r2⟩ := trodAll_cons r1
  obtain ⟨rfl, rfl, rfl⟩ := trodAll_nil r2
  obtain rfl : args = #[v0, v1, v2] := by cases args; simp_all
  obtain ⟨rfl, rfl⟩ := trodVars_none hV
  obtain ⟨a0, rfl, rfl, rfl, w0⟩ := open_int Try.underlying3 (hval 0 3 v0 rfl rfl) h0
  obtain ⟨a1, rfl, rfl, rfl, w1⟩ := open_int Try.underlying3 (hval 1 3 v1 rfl rfl) h1
  obtain ⟨a2, rfl, rfl, rfl, w2⟩ := open_int Try.underlying3 (hval 2 3 v2 rfl rfl) h2
  clear hA0 hval0
  refine (walk a0 a1 a2 W w0 w1 w2).mono fun e W' ⟨he, bel⟩ => ?_
  subst he
  exact ⟨_, rfl, _, _, _, [], _, [], hW', trodAll_mk1 (shut_bool Try.underlying4 _), (trodAll_cons_mk (shut_int Try.underlying3 w0) (trodAll_cons_mk (shut_int Try.underlying3 w1) (trodAll_cons_mk (shut_int Try.underlying3 w2) trodAll_mk0))), rfl, bel.frame _, fun h => by cases h⟩

theorem over : Rows.blockShortRow.holds Try.pinned (OpenSpec.ofChange Rows.blockShortSpec) :=
  OpenClaim.holds_of_wide 8 Try.f8 rfl rfl rfl rfl rfl rfl rfl ⟨rfl, rfl, rfl, rfl, rfl⟩ rfl rfl rfl rfl rfl (by kernel_rfl) Try.func8 (by kernel_rfl)
    (of_decide_eq_true (by kernel_rfl)) (by unfold Func.isWrapper; first | (rw [if_pos (by decide +kernel)]; kernel_rfl) | (rw [if_neg (by decide +kernel)]; exact ⟨rfl, rfl⟩))
    (fun os started H enc _ => lifted os started H enc)

end Go.Proofs.Ytgmdhlchdjlgnaa.blockShort
namespace Go.Proofs.Ytgmdhlchdjlgnaa

theorem blockShort_holds : Rows.BlockShortSaid := blockShort.over

end Go.Proofs.Ytgmdhlchdjlgnaa
