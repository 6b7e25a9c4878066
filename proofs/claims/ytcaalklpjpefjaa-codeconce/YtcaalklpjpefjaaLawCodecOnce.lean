/- Proved: for all bytes the law CodecOnce answers true (and the call leaves all older memory as it was). No condition. -/
import Derived.Test.YtcaalklpjpefjaaCodecEq
import Derived.OpenShut
import Derived.ChangeOld
namespace Go.Proofs.Ytcaalklpjpefjaa.codecOnce
open Go.ChangeShapes Go.WideShapes Go.ChangeAt Go.RowKit

/-- A cut that is wanted, within a region that draws its order and only reads. -/
theorem wpQuiet_cutw {ops : Array Oper} {C : World → Prop} {Q : Act → Prop} {rest : List Oper} {o : Oper} {a : Act} {w : World} (hw : Region.wanted o (yielded ops a.tmps) = true) (x : Operand) (lo hi mx : Option Operand)
    (ho : o.op = .slice 22 x lo hi mx) (hC : ∀ w', C w' → ∃ q, w' = w.drewN q) (v : Value)
    (hrun : ∀ q, (Instr.sliceAt 22 (a.eval x) (lo.map a.eval) (hi.map a.eval) (mx.map a.eval)).run Try.prog (w.drewN q) = .ok v (w.drewN q))
    (h : wpQuiet Try.prog ops C Q rest (a.put o.dst v)) : wpQuiet Try.prog ops C Q (o :: rest) a :=
  wpQuiet_step fun _ hK => by
    rw [if_pos hw]
    refine ⟨v, fun w' hw' => ?_, hK _ h⟩
    obtain ⟨q, rfl⟩ := hC w' hw'
    unfold Oper.quietAt execOp
    simp only [ho, hrun, Sem.run_bind, Sem.run_pure, Result.andThen_ok, Oper.quietUpon, and_self]

theorem cutq (W : World) (ao : Option Addr) (cap : Nat) (l : List UInt8) (k : Int) (hr : ∀ q, Rd (W.drewN q) (.slice ao l.length cap) l) (h0 : 0 ≤ k) (h1 : k ≤ l.length) :
    ∃ vc, (∀ q, (Instr.sliceAt 22 (.slice ao l.length cap) none (some (.int .i64 k)) none).run Try.prog (W.drewN q) = .ok vc (W.drewN q)) ∧ ∀ q, Rd (W.drewN q) vc (l.take k.toNat) := by
  have hlc : l.length ≤ cap := by
    obtain ⟨a, c, e, h, -⟩ := hr 0
    simp only [Value.slice.injEq] at e
    omega
  refine ⟨sliced ao 0 k.toNat cap 1, fun q => ?_, fun q => ?_⟩
  · rw [run_sliceAt_slice _ 22 _ _ _ _ under_bytes, run_slice_h _ 22 ao l.length cap under_bytes .i64 k h0 (by omega), elem_bytes, size_u8]
    rfl
  · have := (hr q).mid 0 k.toNat cap (by omega) (by omega) (by omega) (Nat.le_refl _)
    simpa using this

set_option maxRecDepth 100000 in
set_option maxHeartbeats 4000000 in
theorem walk (v : Value) (l : List UInt8) (w : World) (hr : Rd w v l) :
    Calls Try.prog 6 #[v] w fun e w' => e = .returned (.bool true) ∧ Below w.heap.size w w' := by
  have HA := hide (awake5_any w)
  have HR := hide hr
  obtain ⟨ao, cap, rfl, hlc, hcm, -⟩ := hr
  have hml : (l.length : Int) ≤ 9223372036854775807 := by unfold maxLen at hcm; omega
  clear hlc hcm
  by_cases hl : (l.length : Int) ≤ 3000
  case neg =>
    have hl' : 3000 < (l.length : Int) := by omega
    go_enter Try.func6, Try.ntmps6
    go_wp2_with fail
    refine HA.out.mono ?_
    rintro e W1 ⟨rfl, hb1⟩
    have HB1 := hide hb1
    clear hb1 HA
    go_wp2
    go_ret
    exact ⟨rfl, HB1.out⟩
  have hl' : ¬ (3000 < (l.length : Int)) := by omega
  obtain ⟨dk, dL, ds, dg, de, er, E, hcd, HDE, HEN⟩ : ∃ (dk : Int) (dL : List Int) (ds : Bool) (dg de er : Int) (E : List UInt8), ((de = 0 ∧ er = 0 ∧ E = l) ∨ (de == 0) = false) ∧
      Hid (∀ W, Rd W (.slice ao l.length cap) l → Calls Try.prog 17 #[.slice ao l.length cap] W fun e w' => ∃ vl, e = .returned (.tuple #[.agg #[.int .i64 dk, vl, .bool ds, .int .i64 dg], .int .i64 de]) ∧ RdI w' vl dL ∧ I64 dk ∧ I64 dg ∧ Below W.heap.size W w') ∧
      Hid (∀ W vl, RdI W vl dL → I64 dk → I64 dg → Calls Try.prog 15 #[.agg #[.int .i64 dk, vl, .bool ds, .int .i64 dg]] W fun e w' => ∃ v', e = .returned (.tuple #[v', .int .i64 er]) ∧ Rd w' v' E ∧ Below W.heap.size W w') := by
    have HL : (decS l).1.L.length ≤ 1000 := by
      rcases decS_codes l with h | ⟨h, -⟩
      · have := (may_small (decS_sound h).1).2.1
        omega
      · rw [h]
        simp [zeroS]
    refine ⟨(decS l).1.kind, (decS l).1.L, (decS l).1.shut, (decS l).1.eng, (decS l).2, (if MayS (decS l).1 then 0 else 1), (if MayS (decS l).1 then encS (decS l).1 else []), ?_, fun W h => ?_, fun W vl h1 h2 h3 => ?_⟩
    · rcases decS_codes l with h | ⟨-, h⟩
      · obtain ⟨h1, h2⟩ := decS_sound h
        rw [if_pos h1, if_pos h1]
        exact .inl ⟨h, rfl, h2⟩
      · refine .inr ?_
        rcases h with h | h <;> rw [h] <;> rfl
    · have h := decodeState_any _ l W h (by omega)
      unfold Decoded at h
      refine h.mono ?_
      rintro e w' ⟨vl, h1, h2, h3, h4, -, h5⟩
      exact ⟨vl, h1, h2, h3, h4, h5⟩
    · exact encodeState_any _ (decS l).1 W ⟨vl, rfl, h1, h2, h3⟩ HL
  obtain ⟨gc, ga, gb, k, es, P, hcg, HGO, HPO⟩ : ∃ (gc ga gb k es : Int) (P : List UInt8), (k = 0 ∨ (0 < k ∧ k ≤ l.length ∧ es = 0 ∧ P = l.take k.toNat)) ∧
      Hid (∀ W, Rd W (.slice ao l.length cap) l → Calls Try.prog 12 #[.slice ao l.length cap] W fun e w' => e = .returned (.tuple #[.agg #[.int .i64 gc, .int .i64 ga, .int .i64 gb], .int .i64 k]) ∧ Below W.heap.size W w') ∧
      Hid (∀ W, Calls Try.prog 10 #[.slice none 0 0, .agg #[.int .i64 gc, .int .i64 ga, .int .i64 gb]] W fun e w' => ∃ v', e = .returned (.tuple #[v', .int .i64 es]) ∧ Rd w' v' P ∧ Below W.heap.size W w') := by
    refine ⟨(getOpL l).1.code, (getOpL l).1.a, (getOpL l).1.b, ((getOpL l).2 : Nat), (if FitsO (getOpL l).1 then 0 else 1), (if FitsO (getOpL l).1 then [] ++ putOpL (getOpL l).1 else []), ?_, fun W h => ?_, fun W => ?_⟩
    · by_cases h0 : (getOpL l).2 = 0
      · exact .inl (by rw [h0]; rfl)
      · obtain ⟨h1, h2⟩ := getOp_sound h0
        have h3 := getOp_le l
        rw [if_pos h1, if_pos h1, List.nil_append, h2]
        exact .inr ⟨by omega, by omega, rfl, by rw [Int.toNat_natCast]⟩
    · exact getOp_any _ l W h (by omega)
    · exact putOp_any (.slice none 0 0) [] (getOpL l).1 W (Rd.nil W) (by simp)
  have HCD := hide hcd
  have HCG := hide hcg
  clear hl hcd hcg
  go_enter Try.func6, Try.ntmps6
  go_wp2_with fail
  refine HA.out.mono ?_
  rintro e W1 ⟨rfl, hb1⟩
  have HB1 := hide hb1
  clear hb1 HA
  go_wp2_with fail
  refine (HDE.out _ (HR.out.below HB1.out (Nat.le_refl _))).mono ?_
  rintro e W2 ⟨v2, rfl, hi2, hk2, hg2, hb2⟩
  have HK := hide hk2
  have HG := hide hg2
  have HI2 := hide hi2
  obtain ⟨a2, c2, rfl, -⟩ := hi2
  have HB2 := hide (HB1.out.trans (hb2.mono HB1.out.size))
  have HA2 : Hid (∀ X, Below W2.heap.size W2 (W2.alloc X)) := fun X => (Below.refl _ _).alloc (Nat.le_refl _) X
  have HBA : Hid (∀ X, Below w.heap.size w (W2.alloc X)) := fun X => HB2.out.trans ((HA2.out X).mono HB2.out.size)
  clear hb2 hk2 hg2 HB1 HDE
  go_wp2_with fail
  refine (HEN.out _ _ (HI2.out.below (HA2.out _) (Nat.le_refl _)) HK.out HG.out).mono ?_
  rintro e W3 ⟨v3, rfl, hr3, hb3⟩
  have HB3 := hide ((HBA.out _).trans (hb3.mono (HBA.out _).size))
  have c1 : (convert 22 9 v3).run Try.prog W3 = .ok (.string (bs E)) W3 := hr3.str
  have c2 : (convert 22 9 (.slice ao l.length cap)).run Try.prog W3 = .ok (.string (bs l)) W3 := (HR.out.below HB3.out (Nat.le_refl _)).str
  clear hb3 hr3 HI2 HB2 HA2 HBA HEN HK HG
  have hcd : (de = 0 ∧ er = 0 ∧ bs E = bs l) ∨ (de == 0) = false := by
    rcases HCD.out with ⟨h1, h2, h3⟩ | h
    · exact .inl ⟨h1, h2, by rw [h3]⟩
    · exact .inr h
  clear HCD
  generalize bs E = bE at *
  rcases hcd with ⟨rfl, rfl, rfl⟩ | hde
  all_goals
    go_wp2_with fail
    refine (HGO.out _ (HR.out.below HB3.out (Nat.le_refl _))).mono ?_
    rintro e W4 ⟨rfl, hb4⟩
    have HB4 := hide (HB3.out.trans (hb4.mono HB3.out.size))
    have HA4 : Hid (∀ X, Below w.heap.size w (W4.alloc X)) := fun X => HB4.out.alloc HB4.out.size X
    clear hb4 c1 c2 HB3 HGO
    go_wp2_with fail
    refine (HPO.out _).mono ?_
    rintro e W5 ⟨v5, rfl, hr5, hb5⟩
    have HB5 := hide ((HA4.out _).trans (hb5.mono (HA4.out _).size))
    have HR5 := hide hr5
    clear hb5 hr5 HB4 HA4 HPO
    rcases HCG.out with rfl | ⟨hk0, hkl, rfl, rfl⟩
    · clear HCG
      have hn : decide ((l.length : Int) < 0) = false := decide_eq_false (by omega)
      go_upto_region 10 with fail
      go_quiet (fail)
      go_wp2
      go_ret
      exact ⟨rfl, below_drewN HB5.out _⟩
    · clear HCG
      have hn : decide (k < 0) = false := decide_eq_false (by omega)
      have hn2 : decide ((l.length : Int) < k) = false := decide_eq_false (by omega)
      have HRq : Hid (∀ q, Rd (W5.drewN q) (.slice ao l.length cap) l) := fun q => HR.out.below (below_drewN HB5.out q) (Nat.le_refl _)
      obtain ⟨vc, hvc, hrc⟩ : ∃ vc, (∀ q, (Instr.sliceAt 22 (.slice ao l.length cap) none (some (.int .i64 k)) none).run Try.prog (W5.drewN q) = .ok vc (W5.drewN q)) ∧ ∀ q, Rd (W5.drewN q) vc (l.take k.toNat) := by
        have h0 := HRq.out
        exact cutq W5 ao cap l k h0 (by omega) hkl
      have d1 : ∀ q, (convert 22 9 v5).run Try.prog (W5.drewN q) = .ok (.string (bs (l.take k.toNat))) (W5.drewN q) := fun q => (HR5.out.below (below_drewN (Below.refl _ W5) q) (Nat.le_refl _)).str
      have d2 : ∀ q, (convert 22 9 vc).run Try.prog (W5.drewN q) = .ok (.string (bs (l.take k.toNat))) (W5.drewN q) := fun q => (hrc q).str
      have HVC := hide hvc
      clear hvc hrc
      generalize l.take k.toNat = T at *
      go_upto_region 10 with fail
      refine wp_region_quiet_lit (by kernel_rfl) (by kernel_rfl) ?_
      repeat (go_big_quiet_step (fail))
      refine wpQuiet_cutw (by rfl) _ _ _ _ rfl (fun _ h => h) vc HVC.out ?_
      simp only [Act.put, List.setIfInBounds_toArray, List.set_cons_succ, List.set_cons_zero]
      repeat (go_big_quiet_step (fail))
      refine wpQuiet_nil ?_
      rintro _ ⟨nq, rfl⟩
      have HBQ := hide (below_drewN HB5.out nq)
      go_wp2
      go_ret
      exact ⟨rfl, HBQ.out⟩

theorem own : ownKnob Try.prog.godebug = none := by kernel_rfl
theorem laidOut : laidOutB Try.prog = true := by kernel_rfl

set_option linter.unusedVariables false in
set_option maxRecDepth 100000 in
theorem lifted (os : Os) (started : os.Started) (H : Type) (enc : TypeId × Value → H) :
    ReturnsInHanded {} Try.checked os 6 .any (Rows.codecOnceSpec.pre6 enc Try.prog Try.f6 Rows.codecOnceRow.domain false) (Rows.codecOnceSpec.post enc Try.prog Try.f6 false true false false) := by
  refine returnsInHanded_of_change (C := Try.checked) own started (by kernel_rfl) Try.func6
    (ChangeSpec.witness6 (enc := enc) (C := Try.checked) false ⟨#[], #[.slice none 0 0], []⟩ 8 (by kernel_rfl) (by kernel_rfl) (by kernel_rfl) (by kernel_rfl)) ?_
  intro W base args ds gs before hval0 hW hcnd _
  have hval : ∀ (j : Nat) t v, Try.f6.params[j]? = some t → args[j]? = some v → Value.okWide Try.prog W .any base t v := hval0
  have hW' := hW
  obtain ⟨p, q, hA0, hV, rfl, hfz, hnd⟩ := hW
  have hA : DataW.TrodAll enc Try.prog W 0 (fun _ => true) true Try.f6.params.toList args.toList ds p := hA0
  rw [Try.params6] at hA hval
  obtain ⟨v0, vs0, d0, ds0, p0, q0, hargs, rfl, rfl, h0, r0⟩ := trodAll_cons hA
  obtain ⟨rfl, rfl, rfl⟩ := trodAll_nil r0
  obtain rfl : args = #[v0] := by cases args; simp_all
  obtain ⟨rfl, rfl⟩ := trodVars_none hV
  obtain ⟨a0, len0, cap0, rfl⟩ := okWide_slice Try.underlying22 (hval 0 22 v0 rfl rfl)
  have k0 := h0
  have lt0 : ∀ x ∈ p0, x.block < W.heap.size := by obtain ⟨m, hm⟩ := k0; exact DataW.trod_lt m _ _ _ hm
  obtain ⟨l0, w0⟩ : ∃ l, Rd W (.slice a0 len0 cap0) l := by
    obtain ⟨fuel, hf⟩ := h0
    rcases open_ints Try.underlying22 Try.underlying5 (by kernel_rfl) hf with ⟨hcs, _⟩ | ⟨x, l, c, zs, hcs, _, hl, hm, hz, _, hcell, hwz⟩
    · simp [Value.cells] at hcs
      obtain ⟨rfl, rfl, rfl⟩ := hcs
      exact ⟨[], Rd.nil _⟩
    · simp [Value.cells] at hcs
      obtain ⟨rfl, rfl, rfl⟩ := hcs
      exact ⟨_, Rd.ofRow hl hm (by simpa using hz) hcell hwz⟩
  clear hA0 hval0
  refine (walk _ l0 W w0).mono fun e W' ⟨he, bel⟩ => ?_
  subst he
  exact ⟨_, rfl, _, _, _, [], _, [], hW', trodAll_mk1 (shut_bool Try.underlying4 _), (trodAll_cons_mk (Below.trod laidOut (by kernel_rfl) (of_decide_eq_true (by kernel_rfl)) k0 bel lt0) trodAll_mk0), rfl, bel.frame _, fun h => by cases h⟩

theorem over : Rows.codecOnceRow.holds Try.pinned (OpenSpec.ofChange Rows.codecOnceSpec) :=
  OpenClaim.holds_of_wide 6 Try.f6 rfl rfl rfl rfl rfl rfl rfl ⟨rfl, rfl, rfl, rfl, rfl⟩ rfl rfl rfl rfl rfl (by kernel_rfl) Try.func6 (by kernel_rfl)
    (of_decide_eq_true (by kernel_rfl)) (by unfold Func.isWrapper; first | (rw [if_pos (by decide +kernel)]; kernel_rfl) | (rw [if_neg (by decide +kernel)]; exact ⟨rfl, rfl⟩))
    (fun os started H enc _ => lifted os started H enc)

end Go.Proofs.Ytcaalklpjpefjaa.codecOnce
namespace Go.Proofs.Ytcaalklpjpefjaa

theorem codecOnce_holds : Rows.CodecOnceSaid := codecOnce.over

end Go.Proofs.Ytcaalklpjpefjaa
