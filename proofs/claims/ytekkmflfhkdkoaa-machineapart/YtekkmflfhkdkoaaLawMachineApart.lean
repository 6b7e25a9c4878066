/- Proved: for all calls and every cell the law MachineApart answers true (and the call leaves all older memory as it was). No condition. -/
import Derived.Test.YtekkmflfhkdkoaaMachD
import Derived.Test.YtekkmflfhkdkoaaOpenMach
import Derived.Deep.RegionHeld
import Derived.Deep.DeepCutAuto
import Derived.OpenShut
import Derived.ChangeOld
namespace Go.Proofs.Ytekkmflfhkdkoaa.machineApart
open Go.ChangeShapes Go.WideShapes Go.ChangeAt Go.RowKit

/-- What is true of the machine behind some calls. -/
structure At (cell : Int) (M : Mc) : Prop where
  len : M.len = 5
  c : M.c cell = 9

theorem At.acc {cell : Int} {M : Mc} (h : At cell M) {o : Int} (ho : o ≠ cell) (q : Int) (g : Int → Int) : At cell (accM M q o g) := by
  refine ⟨h.len, ?_⟩
  show (if inM o M.len = true then putF M.c o (g (M.c o)) else M.c) cell = 9
  split
  · rw [putF_other _ _ ho, h.c]
  · exact h.c

theorem At.read {cell : Int} {M : Mc} (h : At cell M) (q : Int) : At cell (readM M q) := ⟨h.len, h.c⟩

theorem At.first {cell : Int} (h0 : 0 ≤ cell) (h1 : cell < 5) : At cell (writeM (cellsM (newM 2) 5) 0 cell 9) := by
  have e : cellsM (newM 2) 5 = { newM 2 with len := 5 } := rfl
  rw [e]
  refine ⟨rfl, ?_⟩
  unfold writeM
  rw [accM_in (inM_true ⟨h0, h1⟩)]
  exact putF_same _ _ _

theorem drewB {B : Nat} {a w : World} (h : Below B a w) : Below B a w.drew := h.drew

set_option maxRecDepth 100000 in
set_option maxHeartbeats 4000000 in
theorem walk (v : Value) (l : List MOp) (cell : Int) (w : World) (hl : RdM w v l) (hce : (Lit.int .i64 cell).wf = true) :
    Calls Try.prog 6 #[v, .int .i64 cell] w fun e w' => e = .returned (.bool true) ∧ Below w.heap.size w w' := by
  have HAW := hide (awakeM_any w)
  have HRL := hide hl
  have HCI := hide (i64_of_wf hce)
  obtain ⟨la, lc, rfl, hlc, hcm, -⟩ := hl
  have hml : (l.length : Int) ≤ 9223372036854775807 := by unfold maxLen at hcm; omega
  clear hlc hcm hce
  obtain ⟨B, hB⟩ : ∃ B, B = w.heap.size := ⟨_, rfl⟩
  rw [← hB] at HAW ⊢
  have HBW : Hid (B ≤ w.heap.size) := hide (by omega)
  have HBE := hide hB
  clear hB
  have hS : ∀ {W : World}, Below B w W → B ≤ W.heap.size := fun h => Nat.le_trans HBW.out h.size
  go_enter Try.func6, Try.ntmps6
  go_wp2_with fail
  refine HAW.out.mono ?_
  rintro e W1 ⟨rfl, hb1⟩
  have HB1 := hide hb1
  clear hb1 HAW
  have HN := hide (newM_any 2 W1 ⟨by decide, by decide⟩)
  go_wp2_with fail
  refine HN.out.mono ?_
  rintro e W2 ⟨p, rfl, hp, hm2, hb2⟩
  have HB2 := hide (HB1.out.trans (hb2.mono (hS HB1.out)))
  have hm2' : MacB B W2 p (newM 2) 0 := hm2.weaken fun k hk h => Nat.lt_of_lt_of_le h (hS HB1.out)
  have HC := hide (cellsK hm2' 5 (by show 0 + 5 ≤ 1000000000000000; decide))
  clear hp hm2 hb2 hm2' HN HB1
  by_cases h3 : (l.length : Int) ≤ 200
  case neg =>
    go_wp2
    go_ret
    exact ⟨rfl, HB2.out⟩
  by_cases h4 : 0 ≤ cell
  case neg =>
    go_wp2
    go_ret
    exact ⟨rfl, HB2.out⟩
  by_cases h5 : cell < 5
  case neg =>
    go_wp2
    go_ret
    exact ⟨rfl, HB2.out⟩
  go_wp2_with fail
  refine HC.out.mono ?_
  rintro e W3 ⟨rfl, hm3, ho3⟩
  have HB3 := hide (HB2.out.trans (onlyB ho3 (hS HB2.out)))
  have HW := hide (writeK hm3 (by decide) 0 cell 9 ⟨by decide, by decide⟩ HCI.out ⟨by decide, by decide⟩)
  have HA3 := hide (At.first h4 h5)
  clear hm3 ho3 HC HB2
  go_wp2_with fail
  refine HW.out.mono ?_
  rintro e W4 ⟨rfl, hm4, ho4⟩
  have HB4 := hide (HB3.out.trans (onlyB ho4 (hS HB3.out)))
  have HM4 := hide hm4
  clear hm4 ho4 HW HB3
  go_wp2
  go_loopw [7] (fun vi wr => ∃ (k : Nat) (M : Mc), vi = .int .i64 (k : Int) ∧ k ≤ l.length ∧ Hid (MacB B wr p M (2 * k + 2)) ∧ Hid (Below B w wr) ∧ Hid (At cell M)) (fun vi _ => l.length - (intOf vi).toNat)
  case atStart => exact ⟨0, _, rfl, Nat.zero_le _, HM4, HB4, HA3⟩
  case round =>
    clear HM4 HB4 HA3
    obtain ⟨k, M, rfl, hkl, HM, HB, HAT⟩ := hrel
    by_cases hlt : k < l.length
    case neg =>
      have HR := hide (readK HM.out (by omega) 1 cell ⟨by decide, by decide⟩ HCI.out)
      have HLN : Hid (∀ W N, MacB B W p (readM M 1) N → Calls Try.prog 21 #[ptr p] W fun e w' => e = .returned (.int .i64 (5 : Int)) ∧ w' = W) := hide fun W N h => by
        have := lenK h
        rw [(HAT.out.read 1).len] at this
        exact this
      rw [HAT.out.c] at HR
      clear HM HAT
      go_wp2_with fail
      refine HR.out.mono ?_
      rintro e wx ⟨rfl, hmx, hox⟩
      have HBX := hide (HB.out.trans (onlyB hox (hS HB.out)))
      have HL := hide (HLN.out _ _ hmx)
      clear hmx hox HR HLN
      go_wp2_with fail
      refine HL.out.mono ?_
      rintro e wy ⟨rfl, rfl⟩
      go_wp2
      go_ret
      exact ⟨rfl, HBX.out⟩
    obtain ⟨x, b, off, hx, hao, ho⟩ := (HRL.out.below HB.out (by rw [HBE.out]; exact Nat.le_refl _)).at hlt
    subst hao
    have HCL : Hid (∀ W, Below B w W → MAt W b (off + k * 5) x) := hide fun W h => by
      obtain ⟨x', b', off', hx', hao', ho'⟩ := (HRL.out.below h (by rw [HBE.out]; exact Nat.le_refl _)).at hlt
      obtain ⟨rfl, rfl⟩ : b = b' ∧ off = off' := by simpa using hao'
      obtain rfl : x = x' := Option.some.inj (hx.symm.trans hx')
      exact ho'
    have c0 := ho.c0
    have c2 := ho.c2
    have HI := hide (And.intro ho.i1 (And.intro ho.i2 (And.intro ho.i3 ho.i4)))
    obtain ⟨K, hK⟩ : ∃ K, K = x.kind := ⟨_, rfl⟩
    obtain ⟨P, hP⟩ : ∃ P, P = x.p := ⟨_, rfl⟩
    obtain ⟨C, hC⟩ : ∃ C, C = x.cell := ⟨_, rfl⟩
    obtain ⟨n, hn⟩ : ∃ n, n = x.n := ⟨_, rfl⟩
    obtain ⟨m, hm⟩ : ∃ m, m = x.m := ⟨_, rfl⟩
    have HCX : Hid (∀ W, Below B w W → W.cell? ⟨b, off + k * 5 + 1, none⟩ = some (.int .i64 P) ∧ W.cell? ⟨b, off + k * 5 + 2, none⟩ = some (.int .i64 C) ∧ W.cell? ⟨b, off + k * 5 + 3, none⟩ = some (.int .i64 n) ∧ W.cell? ⟨b, off + k * 5 + 4, none⟩ = some (.int .i64 m)) := hide fun W h => by
      have h' := HCL.out W h
      rw [hP, hC, hn, hm]
      exact ⟨h'.c1, h'.c2, h'.c3, h'.c4⟩
    rw [← hP, ← hC, ← hn, ← hm] at HI
    rw [← hK] at c0
    rw [← hC] at c2
    have HLT := hide hlt
    clear hK hP hC hn hm HCL ho hx
    by_cases hc : C = cell
    · have hc' : (C == cell) = true := by simp [hc]
      have HM2 : Hid (MacB B wr p M (2 * (k + 1) + 2)) := hide (HM.out.mono (by omega))
      clear hc HM
      go_wp2
      go_roundw
      case rel => exact ⟨k + 1, M, by go_num, by have := HLT.out; omega, HM2, HB, HAT⟩
      case measure => have := HLT.out; simp [intOf]; omega
    have hc' : (C == cell) = false := by simp [hc]
    have HNE := hide hc
    clear hc
    by_cases k1 : K = 1
    · subst k1
      have HMD : Hid (MacB B wr.drew p M (2 * k + 2)) := hide (HM.out.below (Below.refl _ _).drew)
      have HRR := hide (readK HMD.out (by omega) P C HI.out.1 HI.out.2.1)
      have HNX := hide (HAT.out.read P)
      clear HM HMD
      go_upto_region 13 with fail
      go_region_held (fun W => W.cell? ⟨b, off + k * 5 + 1, none⟩ = some (.int .i64 P) ∧ W.cell? ⟨b, off + k * 5 + 2, none⟩ = some (.int .i64 C))
        (first | (with_reducible refine (fun h => ⟨(HCX.out _ h).1, (HCX.out _ h).2.1⟩) ?_; first | (with_reducible exact HB.out) | (with_reducible exact drewB HB.out) | (with_reducible exact HBX.out)))
        (first | (go_at_call 13; refine HRR.out.mono ?_; rintro e wx ⟨rfl, hmx, hox⟩; have HMX := hide hmx; have HBX := hide ((drewB HB.out).trans (onlyB hox (hS (drewB HB.out)))); clear hmx hox HRR))
      all_goals
        go_wp2
        go_roundw
        case rel => exact ⟨k + 1, _, by go_num, by have := HLT.out; omega, HMX, HBX, HNX⟩
        case measure => have := HLT.out; simp [intOf]; omega
    have e1 : (K == 1) = false := by simp [k1]
    clear k1
    by_cases k2 : K = 2
    · subst k2
      have HMD : Hid (MacB B wr.drew p M (2 * k + 2)) := hide (HM.out.below (Below.refl _ _).drew)
      have HRR := hide (writeK HMD.out (by omega) P C n HI.out.1 HI.out.2.1 HI.out.2.2.1)
      have HNX := hide (HAT.out.acc HNE.out P fun _ => n)
      clear HM HMD
      go_upto_region 15 with fail
      go_region_held (fun W => W.cell? ⟨b, off + k * 5 + 1, none⟩ = some (.int .i64 P) ∧ W.cell? ⟨b, off + k * 5 + 2, none⟩ = some (.int .i64 C) ∧ W.cell? ⟨b, off + k * 5 + 3, none⟩ = some (.int .i64 n))
        (first | (with_reducible refine (fun h => ⟨(HCX.out _ h).1, (HCX.out _ h).2.1, (HCX.out _ h).2.2.1⟩) ?_; first | (with_reducible exact HB.out) | (with_reducible exact drewB HB.out) | (with_reducible exact HBX.out)))
        (first | (go_at_call 15; refine HRR.out.mono ?_; rintro e wx ⟨rfl, hmx, hox⟩; have HMX := hide hmx; have HBX := hide ((drewB HB.out).trans (onlyB hox (hS (drewB HB.out)))); clear hmx hox HRR))
      all_goals
        go_wp2
        go_roundw
        case rel => exact ⟨k + 1, _, by go_num, by have := HLT.out; omega, HMX, HBX, HNX⟩
        case measure => have := HLT.out; simp [intOf]; omega
    have e2 : (K == 2) = false := by simp [k2]
    clear k2
    by_cases k3 : K = 3
    · subst k3
      have HMD : Hid (MacB B wr.drew p M (2 * k + 2)) := hide (HM.out.below (Below.refl _ _).drew)
      have HRR := hide (swapK HMD.out (by omega) P C n m HI.out.1 HI.out.2.1 HI.out.2.2.2)
      have HNX := hide (HAT.out.acc HNE.out P fun x => if x = n then m else x)
      clear HM HMD
      go_upto_region 17 with fail
      go_region_held (fun W => W.cell? ⟨b, off + k * 5 + 1, none⟩ = some (.int .i64 P) ∧ W.cell? ⟨b, off + k * 5 + 2, none⟩ = some (.int .i64 C) ∧ W.cell? ⟨b, off + k * 5 + 3, none⟩ = some (.int .i64 n) ∧ W.cell? ⟨b, off + k * 5 + 4, none⟩ = some (.int .i64 m))
        (first | (with_reducible refine (fun h => HCX.out _ h) ?_; first | (with_reducible exact HB.out) | (with_reducible exact drewB HB.out) | (with_reducible exact HBX.out)))
        (first | (go_at_call 17; refine HRR.out.mono ?_; rintro e wx ⟨rfl, hmx, hox⟩; have HMX := hide hmx; have HBX := hide ((drewB HB.out).trans (onlyB hox (hS (drewB HB.out)))); clear hmx hox HRR))
      all_goals
        go_wp2
        go_roundw
        case rel => exact ⟨k + 1, _, by go_num, by have := HLT.out; omega, HMX, HBX, HNX⟩
        case measure => have := HLT.out; simp [intOf]; omega
    have e3 : (K == 3) = false := by simp [k3]
    clear k3
    by_cases k4 : K = 4
    · subst k4
      have HMD : Hid (MacB B wr.drew p M (2 * k + 2)) := hide (HM.out.below (Below.refl _ _).drew)
      have HRR := hide (addK HMD.out (by omega) P C n HI.out.1 HI.out.2.1)
      have HNX := hide (HAT.out.acc HNE.out P fun x => wrap64 (x + n))
      clear HM HMD
      go_upto_region 19 with fail
      go_region_held (fun W => W.cell? ⟨b, off + k * 5 + 1, none⟩ = some (.int .i64 P) ∧ W.cell? ⟨b, off + k * 5 + 2, none⟩ = some (.int .i64 C) ∧ W.cell? ⟨b, off + k * 5 + 3, none⟩ = some (.int .i64 n))
        (first | (with_reducible refine (fun h => ⟨(HCX.out _ h).1, (HCX.out _ h).2.1, (HCX.out _ h).2.2.1⟩) ?_; first | (with_reducible exact HB.out) | (with_reducible exact drewB HB.out) | (with_reducible exact HBX.out)))
        (first | (go_at_call 19; refine HRR.out.mono ?_; rintro e wx ⟨rfl, hmx, hox⟩; have HMX := hide hmx; have HBX := hide ((drewB HB.out).trans (onlyB hox (hS (drewB HB.out)))); clear hmx hox HRR))
      all_goals
        go_wp2
        go_roundw
        case rel => exact ⟨k + 1, _, by go_num, by have := HLT.out; omega, HMX, HBX, HNX⟩
        case measure => have := HLT.out; simp [intOf]; omega
    have e4 : (K == 4) = false := by simp [k4]
    clear k4
    have HM2 : Hid (MacB B wr p M (2 * (k + 1) + 2)) := hide (HM.out.mono (by omega))
    clear HM
    go_wp2
    go_roundw
    case rel => exact ⟨k + 1, M, by go_num, by have := HLT.out; omega, HM2, HB, HAT⟩
    case measure => have := HLT.out; simp [intOf]; omega

theorem own : ownKnob Try.prog.godebug = none := by kernel_rfl
theorem laidOut : laidOutB Try.prog = true := by kernel_rfl

set_option linter.unusedVariables false in
set_option maxRecDepth 100000 in
theorem lifted (os : Os) (started : os.Started) (H : Type) (enc : TypeId × Value → H) :
    ReturnsInHanded {} Try.checked os 6 .any (Rows.machineApartSpec.pre6 enc Try.prog Try.f6 Rows.machineApartRow.domain false) (Rows.machineApartSpec.post enc Try.prog Try.f6 false true false false) := by
  refine returnsInHanded_of_change (C := Try.checked) own started (by kernel_rfl) Try.func6
    (ChangeSpec.witness6 (enc := enc) (C := Try.checked) false ⟨#[], #[.slice none 0 0, .int .i64 0], []⟩ 8 (by kernel_rfl) (by kernel_rfl) (by kernel_rfl) (by kernel_rfl)) ?_
  intro W base args ds gs before hval0 hW hcnd _
  have hval : ∀ (j : Nat) t v, Try.f6.params[j]? = some t → args[j]? = some v → Value.okWide Try.prog W .any base t v := hval0
  have hW' := hW
  obtain ⟨p, q, hA0, hV, rfl, hfz, hnd⟩ := hW
  have hA : DataW.TrodAll enc Try.prog W 0 (fun _ => true) true Try.f6.params.toList args.toList ds p := hA0
  rw [Try.params6] at hA hval
  obtain ⟨v0, vs0, d0, ds0, p0, q0, hargs, rfl, rfl, h0, r0⟩ := trodAll_cons hA
  obtain ⟨v1, vs1, d1, ds1, p1, q1, rfl, rfl, rfl, h1, r1⟩ := trodAll_cons r0
  obtain ⟨rfl, rfl, rfl⟩ := trodAll_nil r1
  obtain rfl : args = #[v0, v1] := by cases args; simp_all
  obtain ⟨rfl, rfl⟩ := trodVars_none hV
  obtain ⟨a0, len0, cap0, rfl⟩ := okWide_slice Try.underlying22 (hval 0 22 v0 rfl rfl)
  have k0 := h0
  have lt0 : ∀ x ∈ p0, x.block < W.heap.size := by obtain ⟨m, hm⟩ := k0; exact DataW.trod_lt m _ _ _ hm
  obtain ⟨l0, w0⟩ : ∃ l, RdM W (.slice a0 len0 cap0) l := by
    obtain ⟨fuel, hf⟩ := h0
    obtain ⟨v, l, hcs, hr⟩ := open_mops hf
    simp [Value.cells] at hcs
    subst hcs
    exact ⟨l, hr⟩
  obtain ⟨a1, rfl, rfl, rfl, w1⟩ := open_int Try.underlying3 (hval 1 3 v1 rfl rfl) h1
  clear hA0 hval0
  refine (walk _ l0 a1 W w0 w1).mono fun e W' ⟨he, bel⟩ => ?_
  subst he
  exact ⟨_, rfl, _, _, _, [], _, [], hW', trodAll_mk1 (shut_bool Try.underlying4 _), (trodAll_cons_mk (Below.trod laidOut (by kernel_rfl) (of_decide_eq_true (by kernel_rfl)) k0 bel lt0) (trodAll_cons_mk (shut_int Try.underlying3 w1) trodAll_mk0)), rfl, bel.frame _, fun h => by cases h⟩

theorem over : Rows.machineApartRow.holds Try.pinned (OpenSpec.ofChange Rows.machineApartSpec) :=
  OpenClaim.holds_of_wide 6 Try.f6 rfl rfl rfl rfl rfl rfl rfl ⟨rfl, rfl, rfl, rfl, rfl⟩ rfl rfl rfl rfl rfl (by kernel_rfl) Try.func6 (by kernel_rfl)
    (of_decide_eq_true (by kernel_rfl)) (by unfold Func.isWrapper; first | (rw [if_pos (by decide +kernel)]; kernel_rfl) | (rw [if_neg (by decide +kernel)]; exact ⟨rfl, rfl⟩))
    (fun os started H enc _ => lifted os started H enc)

end Go.Proofs.Ytekkmflfhkdkoaa.machineApart
namespace Go.Proofs.Ytekkmflfhkdkoaa

theorem machineApart_holds : Rows.MachineApartSaid := machineApart.over

end Go.Proofs.Ytekkmflfhkdkoaa
