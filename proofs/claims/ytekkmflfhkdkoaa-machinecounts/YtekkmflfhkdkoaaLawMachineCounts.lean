/- Proved: for every count of processes and every picks the law MachineCounts answers true (and the call leaves all older memory as it was). No condition. -/
import Derived.Test.YtekkmflfhkdkoaaMachD
import Derived.Test.YtekkmflfhkdkoaaOpenInts
import Derived.OpenShut
import Derived.ChangeOld
namespace Go.Proofs.Ytekkmflfhkdkoaa.machineCounts
open Go.ChangeShapes Go.WideShapes Go.ChangeAt Go.RowKit

/-- How many are one of the first so many. -/
def inC (procs : Int) (l : List Int) : Nat := (l.filter fun x => inM x procs).length

def outC (procs : Int) (l : List Int) : Nat := (l.filter fun x => !inM x procs).length

theorem in_out (procs : Int) : ∀ l : List Int, inC procs l + outC procs l = l.length
  | [] => rfl
  | x :: l => by
    have := in_out procs l
    unfold inC outC at *
    cases h : inM x procs <;> simp [h] <;> omega

theorem inC_next (procs : Int) {l : List Int} {k : Nat} (h : k < l.length) : inC procs (l.take (k + 1)) = inC procs (l.take k) + if inM (l.getD k 0) procs = true then 1 else 0 := by
  unfold inC
  rw [takeI_next h, List.filter_append, List.length_append]
  generalize l.getD k 0 = x
  cases hh : inM x procs <;> simp [hh]

theorem outC_next (procs : Int) {l : List Int} {k : Nat} (h : k < l.length) : outC procs (l.take (k + 1)) = outC procs (l.take k) + if inM (l.getD k 0) procs = true then 0 else 1 := by
  unfold outC
  rw [takeI_next h, List.filter_append, List.length_append]
  generalize l.getD k 0 = x
  cases hh : inM x procs <;> simp [hh]

def sumTo (f : Int → Int) : Nat → Int
  | 0 => 0
  | n + 1 => sumTo f n + f n

theorem sumTo_put (f : Int → Int) (p : Int) : ∀ n : Nat, sumTo (putF f p (f p + 1)) n = sumTo f n + if inM p n = true then 1 else 0
  | 0 => by
    have : inM p (0 : Nat) = false := by unfold inM; simp
    rw [this]
    rfl
  | n + 1 => by
    rw [sumTo, sumTo, sumTo_put f p n]
    unfold putF inM
    by_cases e : p = n
    · subst e
      simp
      omega
    · rw [if_neg e]
      have : decide (0 ≤ p ∧ p < ((n + 1 : Nat) : Int)) = decide (0 ≤ p ∧ p < (n : Int)) := by
        congr 1
        apply propext
        omega
      rw [this]
      omega

theorem sumTo_step (M : Mc) (p : Int) (n : Nat) (hn : M.procs = n) : sumTo (stepM M p) n = sumTo M.s n + if inM p M.procs = true then 1 else 0 := by
  unfold stepM
  rw [hn]
  by_cases h : inM p (n : Int) = true
  · rw [if_pos h, sumTo_put]
  · rw [if_neg h, if_neg h, Int.add_zero]

theorem sumTo_zero : ∀ n : Nat, sumTo (fun _ => 0) n = 0
  | 0 => rfl
  | n + 1 => by rw [sumTo, sumTo_zero n]; rfl

/-- What is true of the machine behind k calls. -/
structure At (n : Int) (l : List Int) (M : Mc) (k : Nat) : Prop where
  procs : M.procs = n
  len : M.len = 1
  c : M.c 0 = k
  sum : sumTo M.s n.toNat = inC n (l.take k)

theorem At.zero (procs : Int) (l : List Int) : At procs l (cellsM (newM procs) 1) 0 := by
  have e : cellsM (newM procs) 1 = { newM procs with len := 1 } := rfl
  rw [e]
  refine ⟨rfl, rfl, rfl, ?_⟩
  show sumTo (fun _ => 0) _ = _
  rw [sumTo_zero]
  rfl

theorem At.next {procs : Int} {l : List Int} {M : Mc} {k : Nat} (h : At procs l M k) (hp : 0 ≤ procs) (hk : k < l.length) (hkk : k ≤ 1000) : At procs l (addM M (l.getD k 0) 0 1) (k + 1) := by
  have hin : inM 0 (M.len : Int) = true := by rw [h.len]; decide
  refine ⟨h.procs, h.len, ?_, ?_⟩
  · unfold addM
    rw [accM_in hin]
    show putF M.c 0 (wrap64 (M.c 0 + 1)) 0 = _
    rw [putF_same, h.c]
    unfold wrap64
    omega
  · show sumTo (stepM M (l.getD k 0)) _ = _
    rw [sumTo_step M _ _ (by rw [h.procs]; omega), h.sum, inC_next procs hk, h.procs]
    split <;> simp

theorem sumTo_bound (f : Int → Int) (X : Int) (h : ∀ p, 0 ≤ f p ∧ f p ≤ X) : ∀ n : Nat, 0 ≤ sumTo f n ∧ sumTo f n ≤ X * n
  | 0 => ⟨Int.le_refl _, by simp [sumTo]⟩
  | n + 1 => by
    have h1 := sumTo_bound f X h n
    have h2 := h n
    rw [sumTo]
    have : X * ((n + 1 : Nat) : Int) = X * n + X := by rw [Int.natCast_succ, Int.mul_add, Int.mul_one]
    omega

set_option maxRecDepth 100000 in
set_option maxHeartbeats 4000000 in
theorem walk (procs : Int) (v : Value) (l : List Int) (w : World) (hprm : (Lit.int .i64 procs).wf = true) (hl : RdI w v l) :
    Calls Try.prog 5 #[.int .i64 procs, v] w fun e w' => e = .returned (.bool true) ∧ Below w.heap.size w w' := by
  have HAW := hide (awakeM_any w)
  have HRL := hide hl
  have HPI := hide (i64_of_wf hprm)
  obtain ⟨la, lc, rfl, hlc, hcm, -⟩ := hl
  have hml : (l.length : Int) ≤ 9223372036854775807 := by unfold maxLen at hcm; omega
  clear hprm hlc hcm
  obtain ⟨B, hB⟩ : ∃ B, B = w.heap.size := ⟨_, rfl⟩
  rw [← hB] at HAW ⊢
  have HBW : Hid (B ≤ w.heap.size) := hide (by omega)
  have HBE := hide hB
  clear hB
  have hS : ∀ {W : World}, Below B w W → B ≤ W.heap.size := fun h => Nat.le_trans HBW.out h.size
  go_enter Try.func5, Try.ntmps5
  go_wp2_with fail
  refine HAW.out.mono ?_
  rintro e W1 ⟨rfl, hb1⟩
  have HB1 := hide hb1
  clear hb1 HAW
  by_cases h1 : 1 ≤ procs
  case neg =>
    go_wp2
    go_ret
    exact ⟨rfl, HB1.out⟩
  by_cases h2 : procs ≤ 100
  case neg =>
    go_wp2
    go_ret
    exact ⟨rfl, HB1.out⟩
  by_cases h3 : (l.length : Int) ≤ 200
  case neg =>
    go_wp2
    go_ret
    exact ⟨rfl, HB1.out⟩
  have HN := hide (newM_any procs W1 HPI.out)
  go_wp2_with fail
  refine HN.out.mono ?_
  rintro e W2 ⟨p, rfl, hp, hm2, hb2⟩
  have HB2 := hide (HB1.out.trans (hb2.mono (hS HB1.out)))
  have hm2' : MacB B W2 p (newM procs) 0 := hm2.weaken fun k hk h => Nat.lt_of_lt_of_le h (hS HB1.out)
  have HC := hide (cellsK hm2' 1 (by show 0 + 1 ≤ 1000000000000000; decide))
  have hz : (newM procs).len = 0 := rfl
  rw [hz] at HC
  clear hp hm2 hb2 hm2' HN HB1 hz
  go_wp2_with fail
  refine HC.out.mono ?_
  rintro e W3 ⟨rfl, hm3, ho3⟩
  have HB3 := hide (HB2.out.trans (onlyB ho3 (hS HB2.out)))
  have HM3 := hide hm3
  clear hm3 ho3 HC HB2
  go_wp2
  go_loopw [8] (fun vi wr => ∃ (k : Nat) (M : Mc), vi = .int .i64 (k : Int) ∧ k ≤ l.length ∧ Hid (MacB B wr p M (2 * k)) ∧ Hid (Below B w wr) ∧ Hid (At procs l M k)) (fun vi _ => l.length - (intOf vi).toNat)
  case atStart => exact ⟨0, _, rfl, Nat.zero_le _, HM3, HB3, hide (At.zero procs l)⟩
  case round =>
    clear HM3 HB3
    obtain ⟨k, M, rfl, hkl, HM, HB, HAT⟩ := hrel
    by_cases hlt : k < l.length
    case neg =>
      have HK : Hid (k = l.length) := hide (by omega)
      obtain ⟨hap, -, -, has⟩ := HAT.out
      rw [HK.out, List.take_length] at has
      have HSM := hide has
      have hbd := sumTo_bound M.s ((2 * k : Nat) : Int) HM.out.ok.s
      obtain ⟨f, hf⟩ : ∃ f, f = M.s := ⟨_, rfl⟩
      have HSQ : Hid (∀ q, I64 q → Calls Try.prog 22 #[ptr p, .int .i64 q] wr fun e w' => e = .returned (.int .i64 (f q)) ∧ w' = wr) := hide fun q hq => by
        rw [hf]
        exact stepsK HM.out q hq
      rw [← hf] at HSM hbd
      have HBD : Hid (∀ n : Nat, n ≤ 100 → 0 ≤ sumTo f n ∧ sumTo f n ≤ 40000 ∧ 0 ≤ f n ∧ f n ≤ 400) := hide fun n hn => by
        have h1 := hbd n
        have h2 := HM.out.ok.s n
        have h3 := HK.out
        rw [← hf] at h2
        have h4 : ((2 * k : Nat) : Int) * n ≤ 400 * 100 := Int.mul_le_mul (by omega) (by omega) (by omega) (by omega)
        omega
      clear hap has hf hbd HM HAT HK hkl
      go_wp2
      go_loopw [9, 10] (fun ni vi wq => ∃ (q : Nat), ni = .int .i64 (sumTo f q) ∧ vi = .int .i64 (q : Int) ∧ (q : Int) ≤ procs ∧ wq = wr) (fun _ vi _ => procs.toNat - (intOf vi).toNat)
      case atStart => exact ⟨0, rfl, rfl, by omega, rfl⟩
      case round =>
        obtain ⟨q, rfl, rfl, hq, rfl⟩ := hrel
        by_cases hql : (q : Int) < procs
        case neg =>
          have HQ : Hid (q = procs.toNat) := hide (by omega)
          have HS2 := hide HSM.out
          rw [← HQ.out] at HS2
          obtain ⟨S, hSS⟩ : ∃ S, S = sumTo f q := ⟨_, rfl⟩
          rw [← hSS]
          rw [← hSS] at HS2
          have hin := in_out procs l
          have HSI : Hid (S = (l.length : Int) - (outC procs l : Nat)) := hide (by rw [HS2.out]; omega)
          clear hq HSM hSS HS2 HSQ HBD hin
          go_wp2
          go_loopw [11, 12] (fun oi vi wz => ∃ (j : Nat), oi = .int .i64 ((outC procs (l.take j) : Nat) : Int) ∧ vi = .int .i64 (j : Int) ∧ j ≤ l.length ∧ wz = wr) (fun _ vi _ => l.length - (intOf vi).toNat)
          case atStart => exact ⟨0, rfl, rfl, Nat.zero_le _, rfl⟩
          case round =>
            obtain ⟨j, rfl, rfl, hj, rfl⟩ := hrel
            by_cases hjl : j < l.length
            case neg =>
              have HJ : Hid (j = l.length) := hide (by omega)
              have HO : Hid ((outC procs (l.take j) : Nat) = outC procs l) := hide (by rw [HJ.out, List.take_length])
              obtain ⟨O, hO⟩ : ∃ O : Nat, O = outC procs (l.take j) := ⟨_, rfl⟩
              rw [← hO] at HO
              rw [← hO]
              have hle : O ≤ l.length := by rw [HO.out]; have := in_out procs l; omega
              have hso : (S == (l.length : Int) - (O : Int)) = true := by rw [HSI.out, HO.out]; simp
              clear hO hj HSI HO
              go_wp2
              go_ret
              exact ⟨rfl, HB.out⟩
            obtain ⟨b, off, hao, hcell, hxi⟩ := (HRL.out.below HB.out (by rw [HBE.out]; exact Nat.le_refl _)).atI hjl
            subst hao
            obtain ⟨x, hx⟩ : ∃ x, x = l.getD j 0 := ⟨_, rfl⟩
            have HON := hide (outC_next procs hjl)
            rw [← hx] at hcell HON
            have hole : outC procs (l.take j) ≤ 200 := by
              have h1 := in_out procs (l.take j)
              have h2 : (l.take j).length ≤ l.length := by simp; omega
              omega
            obtain ⟨O, hO⟩ : ∃ O : Nat, O = outC procs (l.take j) := ⟨_, rfl⟩
            rw [← hO] at HON hole
            rw [← hO]
            have HJL := hide hjl
            clear hO hx hxi hj
            by_cases hx0 : 0 ≤ x
            · by_cases hx1 : x < procs
              · have HI : Hid (inM x procs = true) := inM_true ⟨hx0, hx1⟩
                go_wp2
                go_roundw
                case rel => exact ⟨j + 1, by rw [HON.out, if_pos HI.out]; rfl, by go_num, by have := HJL.out; omega, by first | rfl | trivial⟩
                case measure => have := HJL.out; simp [intOf]; omega
              · have HI : Hid (¬ inM x procs = true) := hide (by unfold inM; simp; omega)
                go_wp2
                go_roundw
                case rel => exact ⟨j + 1, by rw [HON.out, if_neg HI.out]; go_num, by go_num, by have := HJL.out; omega, by first | rfl | trivial⟩
                case measure => have := HJL.out; simp [intOf]; omega
            · have HI : Hid (¬ inM x procs = true) := hide (by unfold inM; simp; omega)
              go_wp2
              go_roundw
              case rel => exact ⟨j + 1, by rw [HON.out, if_neg HI.out]; go_num, by go_num, by have := HJL.out; omega, by first | rfl | trivial⟩
              case measure => have := HJL.out; simp [intOf]; omega
        have hbq := HBD.out q (by omega)
        have HSC := hide (HSQ.out q ⟨by omega, by omega⟩)
        have HSN : Hid (sumTo f (q + 1) = sumTo f q + f q) := rfl
        obtain ⟨S, hSS⟩ : ∃ S, S = sumTo f q := ⟨_, rfl⟩
        obtain ⟨X, hX⟩ : ∃ X, X = f q := ⟨_, rfl⟩
        rw [← hSS, ← hX] at hbq HSN
        rw [← hX] at HSC
        rw [← hSS]
        have HQL := hide hql
        clear hSS hX hq
        go_wp2_with fail
        refine HSC.out.mono ?_
        rintro e wx ⟨rfl, rfl⟩
        go_wp2
        go_roundw
        case rel => exact ⟨q + 1, by rw [HSN.out], by go_num, by have := HQL.out; omega, by first | rfl | trivial⟩
        case measure => have := HQL.out; simp [intOf]; omega
    obtain ⟨b, off, hao, hcell, hxi⟩ := (HRL.out.below HB.out (by rw [HBE.out]; exact Nat.le_refl _)).atI hlt
    subst hao
    have HNX := hide (HAT.out.next (by omega) hlt (by omega))
    have HAD := hide (addK HM.out (by omega) (l.getD k 0) 0 1 hxi ⟨by decide, by decide⟩)
    rw [HAT.out.c] at HAD
    obtain ⟨x, hx⟩ : ∃ x, x = l.getD k 0 := ⟨_, rfl⟩
    rw [← hx] at HAD hcell HNX
    have HLT := hide hlt
    clear hx hxi HM HAT
    go_wp2_with fail
    refine HAD.out.mono ?_
    rintro e wx ⟨rfl, hmx, hox⟩
    have HMX := hide hmx
    have HBX := hide (HB.out.trans (onlyB hox (hS HB.out)))
    clear hmx hox HAD
    go_wp2
    go_roundw
    case rel => exact ⟨k + 1, _, by go_num, by have := HLT.out; omega, HMX, HBX, HNX⟩
    case measure => have := HLT.out; simp [intOf]; omega

theorem own : ownKnob Try.prog.godebug = none := by kernel_rfl
theorem laidOut : laidOutB Try.prog = true := by kernel_rfl

set_option linter.unusedVariables false in
set_option maxRecDepth 100000 in
theorem lifted (os : Os) (started : os.Started) (H : Type) (enc : TypeId × Value → H) :
    ReturnsInHanded {} Try.checked os 5 .any (Rows.machineCountsSpec.pre6 enc Try.prog Try.f5 Rows.machineCountsRow.domain false) (Rows.machineCountsSpec.post enc Try.prog Try.f5 false true false false) := by
  refine returnsInHanded_of_change (C := Try.checked) own started (by kernel_rfl) Try.func5
    (ChangeSpec.witness6 (enc := enc) (C := Try.checked) false ⟨#[], #[.int .i64 0, .slice none 0 0], []⟩ 8 (by kernel_rfl) (by kernel_rfl) (by kernel_rfl) (by kernel_rfl)) ?_
  intro W base args ds gs before hval0 hW hcnd _
  have hval : ∀ (j : Nat) t v, Try.f5.params[j]? = some t → args[j]? = some v → Value.okWide Try.prog W .any base t v := hval0
  have hW' := hW
  obtain ⟨p, q, hA0, hV, rfl, hfz, hnd⟩ := hW
  have hA : DataW.TrodAll enc Try.prog W 0 (fun _ => true) true Try.f5.params.toList args.toList ds p := hA0
  rw [Try.params5] at hA hval
  obtain ⟨v0, vs0, d0, ds0, p0, q0, hargs, rfl, rfl, h0, r0⟩ := trodAll_cons hA
  obtain ⟨v1, vs1, d1, ds1, p1, q1, rfl, rfl, rfl, h1, r1⟩ := trodAll_cons r0
  obtain ⟨rfl, rfl, rfl⟩ := trodAll_nil r1
  obtain rfl : args = #[v0, v1] := by cases args; simp_all
  obtain ⟨rfl, rfl⟩ := trodVars_none hV
  obtain ⟨a0, rfl, rfl, rfl, w0⟩ := open_int Try.underlying3 (hval 0 3 v0 rfl rfl) h0
  obtain ⟨a1, len1, cap1, rfl⟩ := okWide_slice Try.underlying37 (hval 1 37 v1 rfl rfl)
  have k1 := h1
  have lt1 : ∀ x ∈ p1, x.block < W.heap.size := by obtain ⟨m, hm⟩ := k1; exact DataW.trod_lt m _ _ _ hm
  obtain ⟨l1, w1⟩ : ∃ l, RdI W (.slice a1 len1 cap1) l := by
    obtain ⟨fuel, hf⟩ := h1
    obtain ⟨v, l, hcs, hr⟩ := open_rdI hf
    simp [Value.cells] at hcs
    subst hcs
    exact ⟨l, hr⟩
  clear hA0 hval0
  refine (walk a0 _ l1 W w0 w1).mono fun e W' ⟨he, bel⟩ => ?_
  subst he
  exact ⟨_, rfl, _, _, _, [], _, [], hW', trodAll_mk1 (shut_bool Try.underlying4 _), (trodAll_cons_mk (shut_int Try.underlying3 w0) (trodAll_cons_mk (Below.trod laidOut (by kernel_rfl) (of_decide_eq_true (by kernel_rfl)) k1 bel lt1) trodAll_mk0)), rfl, bel.frame _, fun h => by cases h⟩

theorem over : Rows.machineCountsRow.holds Try.pinned (OpenSpec.ofChange Rows.machineCountsSpec) :=
  OpenClaim.holds_of_wide 5 Try.f5 rfl rfl rfl rfl rfl rfl rfl ⟨rfl, rfl, rfl, rfl, rfl⟩ rfl rfl rfl rfl rfl (by kernel_rfl) Try.func5 (by kernel_rfl)
    (of_decide_eq_true (by kernel_rfl)) (by unfold Func.isWrapper; first | (rw [if_pos (by decide +kernel)]; kernel_rfl) | (rw [if_neg (by decide +kernel)]; exact ⟨rfl, rfl⟩))
    (fun os started H enc _ => lifted os started H enc)

end Go.Proofs.Ytekkmflfhkdkoaa.machineCounts
namespace Go.Proofs.Ytekkmflfhkdkoaa

theorem machineCounts_holds : Rows.MachineCountsSaid := machineCounts.over

end Go.Proofs.Ytekkmflfhkdkoaa
