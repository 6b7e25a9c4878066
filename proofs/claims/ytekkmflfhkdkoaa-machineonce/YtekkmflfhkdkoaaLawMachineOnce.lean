/- Proved: for all numbers the law MachineOnce answers true (and the call leaves all older memory as it was). No condition. -/
import Derived.Test.YtekkmflfhkdkoaaMachD
import Derived.Test.YtekkmflfhkdkoaaOpenInts
import Derived.OpenShut
import Derived.ChangeOld
namespace Go.Proofs.Ytekkmflfhkdkoaa.machineOnce
open Go.ChangeShapes Go.WideShapes Go.ChangeAt Go.RowKit

/-- What is true of the machine behind some calls. -/
structure At (M : Mc) (f : Int) : Prop where
  len : M.len = 1
  c : M.c 0 = f
  i : I64 f

theorem At.zero : At (cellsM (newM 3) 1) 0 := by
  have e : cellsM (newM 3) 1 = { newM 3 with len := 1 } := rfl
  rw [e]
  exact ⟨rfl, rfl, by decide, by decide⟩

theorem At.next {M : Mc} {f : Int} (h : At M f) (q x : Int) (hx : I64 x) : At (swapM M q 0 0 x) (if f = 0 then x else f) := by
  have hin : inM 0 (M.len : Int) = true := by rw [h.len]; decide
  refine ⟨h.len, ?_, ?_⟩
  · unfold swapM
    rw [accM_in hin]
    show putF M.c 0 (if M.c 0 = 0 then x else M.c 0) 0 = _
    rw [putF_same, h.c]
  · split
    · exact hx
    · exact h.i

theorem At.ans {M : Mc} {f : Int} (h : At M f) : (inM 0 (M.len : Int) && decide (M.c 0 = 0)) = (f == 0) := by
  have hin : inM 0 (M.len : Int) = true := by rw [h.len]; decide
  rw [hin, h.c]
  rfl

set_option maxRecDepth 100000 in
set_option maxHeartbeats 4000000 in
theorem walk (v : Value) (l : List Int) (w : World) (hl : RdI w v l) :
    Calls Try.prog 4 #[v] w fun e w' => e = .returned (.bool true) ∧ Below w.heap.size w w' := by
  have HAW := hide (awakeM_any w)
  have HRL := hide hl
  obtain ⟨la, lc, rfl, hlc, hcm, -⟩ := hl
  have hml : (l.length : Int) ≤ 9223372036854775807 := by unfold maxLen at hcm; omega
  clear hlc hcm
  obtain ⟨B, hB⟩ : ∃ B, B = w.heap.size := ⟨_, rfl⟩
  rw [← hB] at HAW ⊢
  have HBW : Hid (B ≤ w.heap.size) := hide (by omega)
  have HBE := hide hB
  clear hB
  have hS : ∀ {W : World}, Below B w W → B ≤ W.heap.size := fun h => Nat.le_trans HBW.out h.size
  go_enter Try.func4, Try.ntmps4
  go_wp2_with fail
  refine HAW.out.mono ?_
  rintro e W1 ⟨rfl, hb1⟩
  have HB1 := hide hb1
  clear hb1 HAW
  have HN := hide (newM_any 3 W1 ⟨by decide, by decide⟩)
  go_wp2_with fail
  refine HN.out.mono ?_
  rintro e W2 ⟨p, rfl, hp, hm2, hb2⟩
  have HB2 := hide (HB1.out.trans (hb2.mono (hS HB1.out)))
  have hm2' : MacB B W2 p (newM 3) 0 := hm2.weaken fun k hk h => Nat.lt_of_lt_of_le h (hS HB1.out)
  have HC := hide (cellsK hm2' 1 (by show 0 + 1 ≤ 1000000000000000; decide))
  have hz : (newM 3).len = 0 := rfl
  rw [hz] at HC
  clear hp hm2 hb2 hm2' HN HB1 hz
  by_cases h3 : (l.length : Int) ≤ 100
  case neg =>
    go_wp2
    go_ret
    exact ⟨rfl, HB2.out⟩
  go_wp2_with fail
  refine HC.out.mono ?_
  rintro e W3 ⟨rfl, hm3, ho3⟩
  have HB3 := hide (HB2.out.trans (onlyB ho3 (hS HB2.out)))
  have HM3 := hide hm3
  clear hm3 ho3 HC HB2
  go_wp2
  go_loopw [6, 7] (fun fi vi wr => ∃ (k : Nat) (M : Mc) (f : Int), fi = .int .i64 f ∧ vi = .int .i64 (k : Int) ∧ k ≤ l.length ∧ Hid (MacB B wr p M (2 * k)) ∧ Hid (Below B w wr) ∧ Hid (At M f)) (fun _ vi _ => l.length - (intOf vi).toNat)
  case atStart => exact ⟨0, _, 0, rfl, rfl, Nat.zero_le _, HM3, HB3, hide At.zero⟩
  case round =>
    clear HM3 HB3
    obtain ⟨k, M, f, rfl, rfl, hkl, HM, HB, HAT⟩ := hrel
    by_cases hlt : k < l.length
    case neg =>
      have HR := hide (readK HM.out (by omega) 0 0 ⟨by decide, by decide⟩ ⟨by decide, by decide⟩)
      rw [HAT.out.c] at HR
      clear HM HAT
      go_wp2_with fail
      refine HR.out.mono ?_
      rintro e wx ⟨rfl, -, hox⟩
      have HBX := hide (HB.out.trans (onlyB hox (hS HB.out)))
      clear hox HR
      go_wp2
      go_ret
      exact ⟨rfl, HBX.out⟩
    obtain ⟨b, off, hao, hcell, hxi⟩ := (HRL.out.below HB.out (by rw [HBE.out]; exact Nat.le_refl _)).atI hlt
    subst hao
    have HCL : Hid (∀ W, Below B w W → W.cell? ⟨b, off + k, none⟩ = some (.int .i64 (l.getD k 0))) := hide fun W h => by
      obtain ⟨b', off', hao', hcell', -⟩ := (HRL.out.below h (by rw [HBE.out]; exact Nat.le_refl _)).atI hlt
      obtain ⟨rfl, rfl⟩ : b = b' ∧ off = off' := by simpa using hao'
      exact hcell'
    obtain ⟨x, hx⟩ : ∃ x, x = l.getD k 0 := ⟨_, rfl⟩
    rw [← hx] at hcell hxi HCL
    have HLT := hide hlt
    have HXI := hide hxi
    clear hx hxi
    by_cases hx0 : x = 0
    · have hx1 : (x == 0) = true := by simp [hx0]
      have HM2 : Hid (MacB B wr p M (2 * (k + 1))) := hide (HM.out.mono (by omega))
      clear hx0 HM
      go_wp2
      go_roundw
      case rel => exact ⟨k + 1, M, f, rfl, by go_num, by have := HLT.out; omega, HM2, HB, HAT⟩
      case measure => have := HLT.out; simp [intOf]; omega
    · have hx1 : (x == 0) = false := by simp [hx0]
      have HSW : Hid (∀ q, I64 q → Calls Try.prog 17 #[ptr p, .int .i64 q, .int .i64 0, .int .i64 0, .int .i64 x] wr fun e w' => e = .returned (.bool (f == 0)) ∧ Mac (fun k => k < B) w' p (swapM M q 0 0 x) (2 * k + 2) ∧ Only (fun k => ¬ k < B) wr w') := hide fun q hq => by
        have h := swapK HM.out (by omega) q 0 0 x hq ⟨by decide, by decide⟩ HXI.out
        rw [HAT.out.ans] at h
        exact h
      have HNX : Hid (∀ q, At (swapM M q 0 0 x) (if f = 0 then x else f)) := hide fun q => HAT.out.next q x HXI.out
      clear hx0 HM HAT HXI
      by_cases hf0 : f = 0
      · subst hf0
        go_wp2_with fail
        refine (HSW.out _ ⟨by omega, by omega⟩).mono ?_
        rintro e wx ⟨rfl, hmx, hox⟩
        have HMX := hide hmx
        have HBX := hide (HB.out.trans (onlyB hox (hS HB.out)))
        have hcell2 := HCL.out _ HBX.out
        clear hmx hox HSW
        go_wp2
        go_roundw
        case rel => exact ⟨k + 1, _, x, rfl, by go_num, by have := HLT.out; omega, HMX, HBX, hide (HNX.out _)⟩
        case measure => have := HLT.out; simp [intOf]; omega
      · have hf1 : (f == 0) = false := by simp [hf0]
        have HF0 := hide hf0
        clear hf0
        rw [hf1] at HSW
        go_wp2_with fail
        refine (HSW.out _ ⟨by omega, by omega⟩).mono ?_
        rintro e wx ⟨rfl, hmx, hox⟩
        have HMX := hide hmx
        have HBX := hide (HB.out.trans (onlyB hox (hS HB.out)))
        clear hmx hox HSW
        go_wp2
        go_roundw
        case rel => exact ⟨k + 1, _, f, rfl, by go_num, by have := HLT.out; omega, HMX, HBX, by have := HNX.out; simp only [if_neg HF0.out] at this; exact hide (this _)⟩
        case measure => have := HLT.out; simp [intOf]; omega

theorem own : ownKnob Try.prog.godebug = none := by kernel_rfl
theorem laidOut : laidOutB Try.prog = true := by kernel_rfl

set_option linter.unusedVariables false in
set_option maxRecDepth 100000 in
theorem lifted (os : Os) (started : os.Started) (H : Type) (enc : TypeId × Value → H) :
    ReturnsInHanded {} Try.checked os 4 .any (Rows.machineOnceSpec.pre6 enc Try.prog Try.f4 Rows.machineOnceRow.domain false) (Rows.machineOnceSpec.post enc Try.prog Try.f4 false true false false) := by
  refine returnsInHanded_of_change (C := Try.checked) own started (by kernel_rfl) Try.func4
    (ChangeSpec.witness6 (enc := enc) (C := Try.checked) false ⟨#[], #[.slice none 0 0], []⟩ 8 (by kernel_rfl) (by kernel_rfl) (by kernel_rfl) (by kernel_rfl)) ?_
  intro W base args ds gs before hval0 hW hcnd _
  have hval : ∀ (j : Nat) t v, Try.f4.params[j]? = some t → args[j]? = some v → Value.okWide Try.prog W .any base t v := hval0
  have hW' := hW
  obtain ⟨p, q, hA0, hV, rfl, hfz, hnd⟩ := hW
  have hA : DataW.TrodAll enc Try.prog W 0 (fun _ => true) true Try.f4.params.toList args.toList ds p := hA0
  rw [Try.params4] at hA hval
  obtain ⟨v0, vs0, d0, ds0, p0, q0, hargs, rfl, rfl, h0, r0⟩ := trodAll_cons hA
  obtain ⟨rfl, rfl, rfl⟩ := trodAll_nil r0
  obtain rfl : args = #[v0] := by cases args; simp_all
  obtain ⟨rfl, rfl⟩ := trodVars_none hV
  obtain ⟨a0, len0, cap0, rfl⟩ := okWide_slice Try.underlying37 (hval 0 37 v0 rfl rfl)
  have k0 := h0
  have lt0 : ∀ x ∈ p0, x.block < W.heap.size := by obtain ⟨m, hm⟩ := k0; exact DataW.trod_lt m _ _ _ hm
  obtain ⟨l0, w0⟩ : ∃ l, RdI W (.slice a0 len0 cap0) l := by
    obtain ⟨fuel, hf⟩ := h0
    obtain ⟨v, l, hcs, hr⟩ := open_rdI hf
    simp [Value.cells] at hcs
    subst hcs
    exact ⟨l, hr⟩
  clear hA0 hval0
  refine (walk _ l0 W w0).mono fun e W' ⟨he, bel⟩ => ?_
  subst he
  exact ⟨_, rfl, _, _, _, [], _, [], hW', trodAll_mk1 (shut_bool Try.underlying4 _), (trodAll_cons_mk (Below.trod laidOut (by kernel_rfl) (of_decide_eq_true (by kernel_rfl)) k0 bel lt0) trodAll_mk0), rfl, bel.frame _, fun h => by cases h⟩

theorem over : Rows.machineOnceRow.holds Try.pinned (OpenSpec.ofChange Rows.machineOnceSpec) :=
  OpenClaim.holds_of_wide 4 Try.f4 rfl rfl rfl rfl rfl rfl rfl ⟨rfl, rfl, rfl, rfl, rfl⟩ rfl rfl rfl rfl rfl (by kernel_rfl) Try.func4 (by kernel_rfl)
    (of_decide_eq_true (by kernel_rfl)) (by unfold Func.isWrapper; first | (rw [if_pos (by decide +kernel)]; kernel_rfl) | (rw [if_neg (by decide +kernel)]; exact ⟨rfl, rfl⟩))
    (fun os started H enc _ => lifted os started H enc)

end Go.Proofs.Ytekkmflfhkdkoaa.machineOnce
namespace Go.Proofs.Ytekkmflfhkdkoaa

theorem machineOnce_holds : Rows.MachineOnceSaid := machineOnce.over

end Go.Proofs.Ytekkmflfhkdkoaa
