/- Proved: for every state, every number of processes and every script the law PsimOrder answers true (and the call leaves all older memory as it was). No condition. -/
import Derived.Test.YtedfacbngefhnaaPsimLaw
import Derived.OpenShut
import Derived.ChangeOld
namespace Go.Proofs.Ytedfacbngefhnaa.psimOrder
open Go.ChangeShapes Go.WideShapes Go.ChangeAt Go.RowKit

set_option maxRecDepth 100000 in
set_option maxHeartbeats 8000000 in
theorem walk (v : Value) (s : St) (procs : Int) (vl : Value) (l : List EvP) (w : World) (hs : StV w v s) (_hprm : (Lit.int .i64 procs).wf = true) (hl : RdV w vl l) :
    Calls Try.prog 5 #[v, .int .i64 procs, vl] w fun e w' => e = .returned (.bool true) ∧ Below w.heap.size w w' := by
  have HS := hide hs
  have HL := hide hl
  obtain ⟨vs, rfl, hr, hki, hei⟩ := hs
  obtain ⟨la, lc, rfl, hlc, hcm, -⟩ := hl
  have hml : (l.length : Int) ≤ 9223372036854775807 := by unfold maxLen at hcm; omega
  clear hr hki hei hlc hcm
  have HB0 : Hid (Below w.heap.size w (w.alloc (.cells #[.int .i64 s.kind, vs, .bool s.shut, .int .i64 s.eng] 24))) := hide ((Below.refl _ _).alloc (Nat.le_refl _) _)
  have HX0 : Hid (Bk 24 (w.alloc (.cells #[.int .i64 s.kind, vs, .bool s.shut, .int .i64 s.eng] 24)) w.heap.size #[.int .i64 s.kind, vs, .bool s.shut, .int .i64 s.eng]) := hide (heap_alloc_new _ _)
  have HN0 : Hid (w.heap.size < (w.alloc (.cells #[.int .i64 s.kind, vs, .bool s.shut, .int .i64 s.eng] 24)).heap.size) := hide (by simp)
  go_enter Try.func5, Try.ntmps5
  go_wp2_with fail
  refine (awakeH_any _).mono ?_
  rintro e W1 ⟨rfl, hb1⟩
  have HX1 := hide (HX0.out.keep (hb1.block _ HN0.out))
  have HB1 := hide (HB0.out.trans (hb1.mono (Nat.le_of_lt HN0.out)))
  clear hb1 HX0 HB0 HN0
  obtain ⟨q0, q0'⟩ := HX1.out.cell 0 rfl
  obtain ⟨q1, q1'⟩ := HX1.out.cell 1 rfl
  obtain ⟨q2, q2'⟩ := HX1.out.cell 2 rfl
  obtain ⟨q3, q3'⟩ := HX1.out.cell 3 rfl
  go_wp2_with fail
  refine (fewV_any (HS.out.below HB1.out (Nat.le_refl _)) (HL.out.below HB1.out (Nat.le_refl _))).mono ?_
  rintro e W2 ⟨rfl, hb2⟩
  have HX2 := hide (HX1.out.keep (hb2.block _ HX1.out.lt))
  have HB2 := hide (HB1.out.trans (hb2.mono HB1.out.size))
  clear hb2 HX1 HB1 q0 q1 q2 q3 q0' q1' q2' q3'
  obtain ⟨ok, hok⟩ : ∃ ok, ok = (decide ((s.L.length : Int) ≤ 300) && decide ((l.length : Int) ≤ 1500)) := ⟨_, rfl⟩
  rw [← hok]
  have HOK : Hid (ok = true → l.length ≤ 1500) := hide (by intro h; rw [h] at hok; simp at hok; omega)
  clear hok
  obtain ⟨q0, q0'⟩ := HX2.out.cell 0 rfl
  obtain ⟨q1, q1'⟩ := HX2.out.cell 1 rfl
  obtain ⟨q2, q2'⟩ := HX2.out.cell 2 rfl
  obtain ⟨q3, q3'⟩ := HX2.out.cell 3 rfl
  go_wp2_with fail
  refine (newE_any (HS.out.below HB2.out (Nat.le_refl _)) procs).mono ?_
  rintro e W3 ⟨hb3, hr3⟩
  have HB3 := hide (HB2.out.trans (hb3.mono HB2.out.size))
  have HS2 := hide HB2.out.size
  clear hb3 HX2 HB2 q0 q1 q2 q3 q0' q1' q2' q3'
  by_cases hmay : MayS s ∧ 1 ≤ procs ∧ procs ≤ 64
  case neg =>
    rw [if_neg hmay] at hr3
    subst hr3
    clear hmay
    cases ok
    all_goals
      go_wp2
      go_ret
      exact ⟨rfl, HB3.out⟩
  rw [if_pos hmay] at hr3
  obtain ⟨eb, rfl, hE⟩ := hr3
  cases ok with
  | false =>
    go_wp2
    go_ret
    exact ⟨rfl, HB3.out⟩
  | true =>
    have hlen := HOK.out rfl
    obtain ⟨n, rfl⟩ : ∃ n : Nat, procs = (n : Int) := ⟨procs.toNat, by omega⟩
    rw [Int.toNat_natCast] at hE
    have hf : Fresh herlM n (newEg s n) := herlM_fresh hmay.1 (by omega)
    have HRUN := hide (run_any (hE.weaken (K' := fun k => k < w.heap.size) fun k hk => Nat.lt_of_lt_of_le hk HS2.out) (fun k hk => Nat.lt_of_lt_of_le hk HB3.out.size) (by omega) hf (HL.out.below HB3.out (Nat.le_refl _)) (fun W hW => HL.out.below (HB3.out.trans (onlyBH hW HB3.out.size)) (Nat.le_refl _)) hlen (by omega))
    have HF := hide hf
    have HLE := hide hlen
    clear hE hf hlen hmay HOK
    go_wp2_with fail
    refine HRUN.out.mono ?_
    rintro e W4 ⟨vo, rfl, ho4, hE4, hO4⟩
    have HB4 := hide (HB3.out.trans (onlyBH hO4 HB3.out.size))
    have HRC := hide ho4.rd
    have HOL := hide (runK_len n (newEg s n) l l.length)
    have HLG := hide hE4.logs
    have HLOG := hide (log_any hE4 (by have := HLE.out; omega))
    obtain ⟨R, hR⟩ : ∃ R, R = runK n (newEg s n) l l.length := ⟨_, rfl⟩
    have HORD := hide (fun (i k : Nat) hi hk => ran_order HF.out l (i := i) (k := k) hi hk)
    rw [← hR] at HRC HOL HLG HLOG
    have HORD' : Hid (∀ i k, i < R.out.length → k < R.out.length → ¬ (0 ≤ (R.out.getD i noCal).to_ ∧ (R.out.getD i noCal).to_ < (R.out.getD k noCal).from_ ∧ 0 ≤ (atC R.e.log (R.out.getD k noCal)).1 ∧ (atC R.e.log (R.out.getD k noCal)).1 < (atC R.e.log (R.out.getD i noCal)).1)) := hide (by rw [hR]; exact fun i k hi hk => HORD.out i k hi hk)
    obtain ⟨a, oc, hvo, -⟩ := id HRC.out
    subst hvo
    clear hR ho4 hE4 hO4 HRUN HORD HB3 HF
    go_wp2_with fail
    refine HLOG.out.mono ?_
    rintro e W5 ⟨vg, rfl, ho5, hb5⟩
    have HRR := hide (ho5.rd HLG.out.2)
    have HC5 := hide (HRC.out.below hb5 (Nat.le_refl _))
    have HB5 := hide (HB4.out.trans (hb5.mono HB4.out.size))
    have hgl : R.e.log.length ≤ 200000 := by have h1 := HLG.out.1; have h2 := HLE.out; omega
    have hol : R.out.length ≤ 1500 := by have h1 := HOL.out; have h2 := HLE.out; omega
    obtain ⟨ga, gc, hvg, -⟩ := id HRR.out
    subst hvg
    have HGL := hide hgl
    have HOL2 := hide hol
    clear ho5 hb5 HRC HB4 HLOG HLG HOL HLE
    have HAT := hide (fun (W : World) (c : Cal) (h : Below W5.heap.size W5 W) => at_any (HRR.out.below h (Nat.le_refl _)) c (by have := HGL.out; omega))
    go_wp2
    go_loopw [13, 14] (fun vp vi wr => ∃ i : Nat, vi = .int .i64 (i : Int) ∧ i ≤ R.out.length ∧ Hid (OwnI wr W5.heap.size vp (plcs R.e.log R.out i)) ∧ Hid (Below W5.heap.size W5 wr)) (fun _ vi _ => R.out.length - (intOf vi).toNat)
    case atStart => exact ⟨0, rfl, Nat.zero_le _, hide (OwnI.nil _ _), hide (Below.refl _ _)⟩
    case round =>
      obtain ⟨i, rfl, hi, HO, HB⟩ := hrel
      by_cases hlt : i < R.out.length
      case neg =>
        obtain rfl : i = R.out.length := by omega
        have HPR := hide (HO.out.rd (plcs_i64 R.e.log R.out (by have := HGL.out; omega) _))
        obtain ⟨pa, pc, hvp, -⟩ := id HPR.out
        rw [plcs_len _ _ (Nat.le_refl _)] at hvp
        subst hvp
        clear HO HAT hi hlt
        go_wp2
        go_loopw [17] (fun vi W => ∃ i : Nat, vi = .int .i64 (i : Int) ∧ i ≤ R.out.length ∧ Hid (∃ m, W = wr.drewN m)) (fun vi _ => R.out.length - (intOf vi).toNat)
        case atStart => exact ⟨0, rfl, Nat.zero_le _, hide ⟨0, rfl⟩⟩
        case round =>
          obtain ⟨i, rfl, hi, HW⟩ := hrel
          obtain ⟨m, hm⟩ := HW.out
          subst hm
          by_cases hlt : i < R.out.length
          case neg =>
            have HBE := hide (HB5.out.trans (HB.out.mono HB5.out.size))
            go_wp2
            go_ret
            exact ⟨rfl, below_drewN HBE.out _⟩
          have hil : (i : Int) < (R.out.length : Int) := by omega
          have HLT := hide hlt
          clear hlt hi HW
          go_wp2
          go_loopw [18] (fun vi W => ∃ k : Nat, vi = .int .i64 (k : Int) ∧ k ≤ R.out.length ∧ Hid (∃ m, W = wr.drewN m)) (fun vi _ => R.out.length - (intOf vi).toNat)
          case atStart => exact ⟨0, rfl, Nat.zero_le _, hide ⟨_, rfl⟩⟩
          case round =>
            obtain ⟨k, rfl, hk, HW⟩ := hrel
            obtain ⟨m', hm⟩ := HW.out
            subst hm
            by_cases hlk : k < R.out.length
            case neg =>
              clear hk HW
              go_wp2
              go_roundw
              case rel => exact ⟨i + 1, by go_num, by have := HLT.out; omega, hide ⟨_, rfl⟩⟩
              case measure => have := HLT.out; simp [intOf]; omega
            have hkl : (k : Int) < (R.out.length : Int) := by omega
            obtain ⟨g, rfl, hci⟩ := (HC5.out.below HB.out (Nat.le_refl _)).at HLT.out
            obtain ⟨g', e', hck⟩ := (HC5.out.below HB.out (Nat.le_refl _)).at hlk
            obtain rfl : g = g' := by simpa using e'
            have HORK := hide (HORD'.out i k HLT.out hlk)
            obtain ⟨pb, po, hpa, hpi⟩ := HPR.out.atV (i := i) (by rw [plcs_len _ _ (Nat.le_refl _)]; exact HLT.out)
            obtain ⟨pb', po', hpa', hpk⟩ := HPR.out.atV (i := k) (by rw [plcs_len _ _ (Nat.le_refl _)]; exact hlk)
            rw [hpa] at hpa'
            obtain ⟨rfl, rfl⟩ : pb = pb' ∧ po = po' := by simpa using hpa'
            subst hpa
            rw [plcs_get _ _ HLT.out] at hpi
            rw [plcs_get _ _ hlk] at hpk
            have HLK := hide hlk
            obtain ⟨-, -, -, c3, -, -, -, -⟩ := hci
            obtain ⟨-, -, d2, -, -, -, -, -⟩ := hck
            clear e' hpa' hlk hk HW
            generalize (R.out.getD i noCal).to_ = ct at *
            generalize (R.out.getD k noCal).from_ = df at *
            generalize (atC R.e.log (R.out.getD i noCal)).1 = xi at *
            generalize (atC R.e.log (R.out.getD k noCal)).1 = xk at *
            by_cases h1 : 0 ≤ ct
            · have b1 : decide (ct ≥ 0) = true := decide_eq_true h1
              by_cases h2 : ct < df
              · have b2 : decide (ct < df) = true := decide_eq_true h2
                by_cases h3 : 0 ≤ xk
                · have b3 : decide (xk ≥ 0) = true := decide_eq_true h3
                  have h4 : ¬ xk < xi := fun h4 => HORK.out ⟨h1, h2, h3, h4⟩
                  have b4 : decide (xk < xi) = false := decide_eq_false h4
                  clear h1 h2 h3 h4
                  go_upto_region 20 with fail
                  go_quiet (fail)
                  go_wp2
                  go_roundw
                  case rel => exact ⟨k + 1, by go_num, by have := HLK.out; omega, hide ⟨_, rfl⟩⟩
                  case measure => have := HLK.out; simp [intOf]; omega
                · have b3 : decide (xk ≥ 0) = false := decide_eq_false h3
                  clear h1 h2 h3
                  go_upto_region 20 with fail
                  go_quiet (fail)
                  go_wp2
                  go_roundw
                  case rel => exact ⟨k + 1, by go_num, by have := HLK.out; omega, hide ⟨_, rfl⟩⟩
                  case measure => have := HLK.out; simp [intOf]; omega
              · have b2 : decide (ct < df) = false := decide_eq_false h2
                clear h1 h2
                go_upto_region 20 with fail
                go_quiet (fail)
                go_wp2
                go_roundw
                case rel => exact ⟨k + 1, by go_num, by have := HLK.out; omega, hide ⟨_, rfl⟩⟩
                case measure => have := HLK.out; simp [intOf]; omega
            · have b1 : decide (ct ≥ 0) = false := decide_eq_false h1
              clear h1
              go_upto_region 20 with fail
              go_quiet (fail)
              go_wp2
              go_roundw
              case rel => exact ⟨k + 1, by go_num, by have := HLK.out; omega, hide ⟨_, rfl⟩⟩
              case measure => have := HLK.out; simp [intOf]; omega
      have hil : (i : Int) < (R.out.length : Int) := by omega
      obtain ⟨g, rfl, hcat⟩ := (HC5.out.below HB.out (Nat.le_refl _)).at hlt
      have HC := hide (HAT.out wr (R.out.getD i noCal) HB.out)
      have HPS := hide (plcs_succ R.e.log R.out hlt)
      have HPL := hide (plcs_len R.e.log R.out hi)
      have HLT := hide hlt
      obtain ⟨c, hc⟩ : ∃ c, c = R.out.getD i noCal := ⟨_, rfl⟩
      rw [← hc] at hcat HC HPS
      clear hc hlt hi
      obtain ⟨cp, cs, cf, ct, cr, ⟨oc1, oa1, ob1⟩⟩ := c
      obtain ⟨c0, c1, c2, c3, c4, c5, c6, c7⟩ := hcat
      unfold calC at HC
      dsimp only at c0 c1 c2 c3 c4 c5 c6 c7 HC
      go_wp2_with fail
      refine HC.out.mono ?_
      rintro e W6 ⟨rfl, hb6⟩
      have HB6 := hide (HB.out.trans (hb6.mono HB.out.size))
      have HO6 := hide (HO.out.below hb6 (Nat.le_refl _))
      clear hb6 c0 c1 c2 c3 c4 c5 c6 c7 HC HO
      generalize (atC R.e.log ⟨cp, cs, cf, ct, cr, ⟨oc1, oa1, ob1⟩⟩).1 = x at *
      go_wp2_with (at_builtin; refine wpList_append_int _ rfl _ _ rfl W5.heap.size _ (plcs R.e.log R.out i) rfl HO6.out x rfl (by have h1 := HPL.out; have h2 := HOL2.out; have h3 := HLT.out; omega) HB6.out.size ?_)
      rintro vp' W7 ho7 hb7
      rw [← HPS.out] at ho7
      have HO7 := hide ho7
      have HB7 := hide (HB6.out.trans hb7)
      clear ho7 hb7
      go_wp2
      go_roundw
      case rel => exact ⟨i + 1, by go_num, by have := HLT.out; omega, HO7, HB7⟩
      case measure => have := HLT.out; simp [intOf]; omega

theorem own : ownKnob Try.prog.godebug = none := by kernel_rfl
theorem laidOut : laidOutB Try.prog = true := by kernel_rfl

set_option linter.unusedVariables false in
set_option maxRecDepth 100000 in
theorem lifted (os : Os) (started : os.Started) (H : Type) (enc : TypeId × Value → H) :
    ReturnsInHanded {} Try.checked os 5 .any (Rows.psimOrderSpec.pre6 enc Try.prog Try.f5 Rows.psimOrderRow.domain false) (Rows.psimOrderSpec.post enc Try.prog Try.f5 false true false false) := by
  refine returnsInHanded_of_change (C := Try.checked) own started (by kernel_rfl) Try.func5
    (ChangeSpec.witness6 (enc := enc) (C := Try.checked) false ⟨#[], #[.agg #[.int .i64 0, .slice none 0 0, .bool false, .int .i64 0], .int .i64 0, .slice none 0 0], []⟩ 8 (by kernel_rfl) (by kernel_rfl) (by kernel_rfl) (by kernel_rfl)) ?_
  intro W base args ds gs before hval0 hW hcnd _
  have hval : ∀ (j : Nat) t v, Try.f5.params[j]? = some t → args[j]? = some v → Value.okWide Try.prog W .any base t v := hval0
  have hW' := hW
  obtain ⟨p, q, hA0, hV, rfl, hfz, hnd⟩ := hW
  have hA : DataW.TrodAll enc Try.prog W 0 (fun _ => true) true Try.f5.params.toList args.toList ds p := hA0
  rw [Try.params5] at hA hval
  obtain ⟨v0, vs0, d0, ds0, p0, q0, hargs, rfl, rfl, h0, r0⟩ := trodAll_cons hA
  obtain ⟨v1, vs1, d1, ds1, p1, q1, rfl, rfl, rfl, h1, r1⟩ := trodAll_cons r0
  obtain ⟨v2, vs2, d2, ds2, p2, q2, rfl, rfl, rfl, h2, r2⟩ := trodAll_cons r1
  obtain ⟨rfl, rfl, rfl⟩ := trodAll_nil r2
  obtain rfl : args = #[v0, v1, v2] := by cases args; simp_all
  obtain ⟨rfl, rfl⟩ := trodVars_none hV
  have k0 := h0
  have lt0 : ∀ x ∈ p0, x.block < W.heap.size := by obtain ⟨m, hm⟩ := k0; exact DataW.trod_lt m _ _ _ hm
  obtain ⟨s0, w0⟩ := open_state (hval 0 24 v0 rfl rfl) h0
  obtain ⟨a1, rfl, rfl, rfl, w1⟩ := open_int Try.underlying3 (hval 1 3 v1 rfl rfl) h1
  obtain ⟨a2, len2, cap2, rfl⟩ := okWide_slice Try.underlying44 (hval 2 44 v2 rfl rfl)
  have k2 := h2
  have lt2 : ∀ x ∈ p2, x.block < W.heap.size := by obtain ⟨m, hm⟩ := k2; exact DataW.trod_lt m _ _ _ hm
  obtain ⟨l2, w2⟩ : ∃ l, RdV W (.slice a2 len2 cap2) l := by
    obtain ⟨fuel, hf⟩ := h2
    obtain ⟨v, l, hcs, hr⟩ := open_evs hf
    simp [Value.cells] at hcs
    subst hcs
    exact ⟨l, hr⟩
  clear hA0 hval0
  refine (walk _ s0 a1 _ l2 W w0 w1 w2).mono fun e W' ⟨he, bel⟩ => ?_
  subst he
  exact ⟨_, rfl, _, _, _, [], _, [], hW', trodAll_mk1 (shut_bool Try.underlying4 _), (trodAll_cons_mk (Below.trod laidOut (by kernel_rfl) (of_decide_eq_true (by kernel_rfl)) k0 bel lt0) (trodAll_cons_mk (shut_int Try.underlying3 w1) (trodAll_cons_mk (Below.trod laidOut (by kernel_rfl) (of_decide_eq_true (by kernel_rfl)) k2 bel lt2) trodAll_mk0))), rfl, bel.frame _, fun h => by cases h⟩

theorem over : Rows.psimOrderRow.holds Try.pinned (OpenSpec.ofChange Rows.psimOrderSpec) :=
  OpenClaim.holds_of_wide 5 Try.f5 rfl rfl rfl rfl rfl rfl rfl ⟨rfl, rfl, rfl, rfl, rfl⟩ rfl rfl rfl rfl rfl (by kernel_rfl) Try.func5 (by kernel_rfl)
    (of_decide_eq_true (by kernel_rfl)) (by unfold Func.isWrapper; first | (rw [if_pos (by decide +kernel)]; kernel_rfl) | (rw [if_neg (by decide +kernel)]; exact ⟨rfl, rfl⟩))
    (fun os started H enc _ => lifted os started H enc)

end Go.Proofs.Ytedfacbngefhnaa.psimOrder
namespace Go.Proofs.Ytedfacbngefhnaa

theorem psimOrder_holds : Rows.PsimOrderSaid := psimOrder.over

end Go.Proofs.Ytedfacbngefhnaa
