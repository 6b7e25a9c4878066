/- Proved: for all bytes and numbers the law FilesSwap answers true (and the call leaves all older memory as it was). No condition. -/
import Derived.Test.YtfphllhcoiblkaaFilesAwake
import Derived.Test.YtfphllhcoiblkaaFilesKeepM
import Derived.OpenShut
import Derived.ChangeOld
namespace Go.Proofs.Ytfphllhcoiblkaa.filesSwap
open Go.ChangeShapes Go.WideShapes Go.ChangeAt Go.RowKit

set_option maxRecDepth 100000 in
set_option maxHeartbeats 2000000 in
theorem walk (va : Value) (a : List UInt8) (vb : Value) (b : List UInt8) (cut : Int) (names : Int) (vk : Value) (keep : List Int) (w : World) (ha : Rd w va a) (hb : Rd w vb b) (hcu : (Lit.int .i64 cut).wf = true) (_hnm : (Lit.int .i64 names).wf = true) (hk : RdI w vk keep) :
    Calls Try.prog 5 #[va, vb, .int .i64 cut, .int .i64 names, vk] w fun e w' => e = .returned (.bool true) ∧ Below w.heap.size w w' := by
  have HAW := hide (awakeF_any w)
  have HRA := hide ha
  have HRB := hide hb
  have HRK := hide hk
  have HCU := hide (i64_of_wf hcu)
  obtain ⟨aa, ac, rfl, -⟩ := ha
  obtain ⟨ba, bc, rfl, -⟩ := hb
  obtain ⟨ka, kc, rfl, -⟩ := hk
  clear hcu
  obtain ⟨B, hB⟩ : ∃ B, B = w.heap.size := ⟨_, rfl⟩
  rw [← hB] at HAW ⊢
  have HBW : Hid (B ≤ w.heap.size) := hide (by omega)
  have HBE := hide hB
  clear hB
  go_enter Try.func5, Try.ntmps5
  go_wp2_with fail
  refine HAW.out.mono ?_
  rintro e W1 ⟨rfl, hb1⟩
  have HB1 := hide hb1
  have HN := hide (newB_any B 10000 ⟨by decide, by decide⟩ W1 (Nat.le_trans HBW.out hb1.size))
  clear hb1 HAW
  go_wp2_with fail
  refine HN.out.mono ?_
  rintro e W2 ⟨p, rfl, hd2, hb2⟩
  have HD2 := hide hd2
  have HB2 := hide (HB1.out.trans hb2)
  clear hd2 hb2 HN HB1
  by_cases hla : a.length ≤ 300
  case neg =>
    have hla' : decide ((a.length : Int) > 300) = true := decide_eq_true (by omega)
    go_wp2
    go_ret
    exact ⟨rfl, HB2.out⟩
  by_cases hlb : b.length ≤ 300
  case neg =>
    have hlb' : decide ((b.length : Int) > 300) = true := decide_eq_true (by omega)
    go_wp2
    go_ret
    exact ⟨rfl, HB2.out⟩
  by_cases hlk : keep.length ≤ 300
  case neg =>
    have hlk' : decide ((keep.length : Int) > 300) = true := decide_eq_true (by omega)
    go_wp2
    go_ret
    exact ⟨rfl, HB2.out⟩
  by_cases hlc : cut ≤ 1000
  case neg =>
    have hlc' : decide (cut > 1000) = true := decide_eq_true (by omega)
    go_wp2
    go_ret
    exact ⟨rfl, HB2.out⟩
  have hS : ∀ {W : World}, Below B w W → B ≤ W.heap.size := fun h => Nat.le_trans HBW.out h.size
  have hm5 : I64 5 := ⟨by decide, by decide⟩
  have hm1 : I64 1 := ⟨by decide, by decide⟩
  obtain ⟨k1, k2, k3⟩ := kd_made (n := 5) (by decide) hla
  have HOA : Hid (∀ W, Below B w W → Rd W (.slice aa a.length ac) a) := hide (fun W h => HRA.out.below h (by rw [HBE.out]; exact Nat.le_refl _))
  have HOB : Hid (∀ W, Below B w W → Rd W (.slice ba b.length bc) b) := hide (fun W h => HRB.out.below h (by rw [HBE.out]; exact Nat.le_refl _))
  have HOK : Hid (∀ W, Below B w W → RdI W (.slice ka keep.length kc) keep) := hide (fun W h => HRK.out.below h (by rw [HBE.out]; exact Nat.le_refl _))
  have HA1 := hide (appendB_rd (B := B) 5 hm5 _ a W2 HD2.out (hS HB2.out) (HOA.out _ HB2.out) (by rw [HBE.out]; exact HRA.out.blockLt) (by decide) (by decide) (by omega))
  rw [k1] at HA1
  go_wp2_with fail
  refine HA1.out.mono ?_
  rintro e W3 ⟨rfl, hd3, hb3⟩
  have HB3 := hide (HB2.out.trans hb3)
  have HY := hide (syncB_any 5 hm5 W3 hd3 (hS HB3.out))
  rw [k2] at HY
  clear hd3 hb3 HA1 HD2 HB2
  go_wp2_with fail
  refine HY.out.mono ?_
  rintro e W4 ⟨rfl, hd4, hb4⟩
  have HB4 := hide (HB3.out.trans hb4)
  have HZ := hide (syncDirB_any W4 hd4 (hS HB4.out))
  rw [k3] at HZ
  clear hd4 hb4 HY HB3
  go_wp2_with fail
  refine HZ.out.mono ?_
  rintro e W5 ⟨rfl, hd5, hb5⟩
  have HB5 := hide (HB4.out.trans hb5)
  have HC := hide (cutB_any cut HCU.out W5 hd5 (hS HB5.out))
  clear hd5 hb5 HZ HB4
  go_wp2_with fail
  refine HC.out.mono ?_
  rintro e W6 ⟨rfl, hd6, hb6⟩
  obtain ⟨q, hq⟩ : ∃ q, q = max cut 0 := ⟨_, rfl⟩
  have hq0 : 0 ≤ q := by rw [hq]; omega
  have HD6 : Hid (DskB B W6 p (kd 5 a q) 6 (0 + a.length)) := hide (by rw [hq]; exact hd6)
  have HB6 := hide (HB5.out.trans hb6)
  have HMA := hide (swap_math hla hlb q hq0 names keep)
  have HA2 := hide (appendB_rd (B := B) 1 hm1 _ b W6 HD6.out (hS HB6.out) (HOB.out _ HB6.out) (by rw [HBE.out]; exact HRB.out.blockLt) (by decide) (by omega) (by omega))
  clear hd6 hb6 HC HB5 hq HD6
  obtain ⟨⟨DA, cA⟩, hA⟩ : ∃ r, r = swA a b q := ⟨_, rfl⟩
  obtain ⟨⟨DB, cB⟩, hBb⟩ : ∃ r, r = swB a b q := ⟨_, rfl⟩
  obtain ⟨⟨DC, cC⟩, hCc⟩ : ∃ r, r = swC a b q := ⟨_, rfl⟩
  obtain ⟨⟨DS, cS⟩, hSs⟩ : ∃ r, r = swS a b q := ⟨_, rfl⟩
  rw [← hA, ← hBb, ← hCc, ← hSs] at HMA
  have e1 : appendD (kd 5 a q) 1 b = (DA, cA) := hA.symm
  have e2 : syncD DA 1 = (DB, cB) := by rw [hBb]; show syncD DA 1 = syncD (swA a b q).1 1; rw [← hA]
  have e3 : renameD DB 1 5 = (DC, cC) := by rw [hCc]; show renameD DB 1 5 = renameD (swB a b q).1 1 5; rw [← hBb]
  have e4 : syncDirD DC = (DS, cS) := by rw [hSs]; show syncDirD DC = syncDirD (swC a b q).1; rw [← hCc]
  rw [e1] at HA2
  clear e1 hA hBb hCc hSs
  have HE2 := hide e2
  have HE3 := hide e3
  have HE4 := hide e4
  clear e2 e3 e4
  go_wp2_with fail
  refine HA2.out.mono ?_
  rintro e W7 ⟨rfl, hd7, hb7⟩
  have HB7 := hide (HB6.out.trans hb7)
  have HY := hide (syncB_any 1 hm1 W7 hd7 (hS HB7.out))
  rw [HE2.out] at HY
  clear hd7 hb7 HA2 HB6 HE2
  go_wp2_with fail
  refine HY.out.mono ?_
  rintro e W8 ⟨rfl, hd8, hb8⟩
  have HB8 := hide (HB7.out.trans hb8)
  have HR := hide (renameB_any 1 5 hm1 hm5 W8 hd8 (hS HB8.out) (by decide) (by omega))
  rw [HE3.out] at HR
  clear hd8 hb8 HY HB7 HE3
  go_wp2_with fail
  refine HR.out.mono ?_
  rintro e W9 ⟨rfl, hd9, hb9⟩
  have HB9 := hide (HB8.out.trans hb9)
  have HZ := hide (syncDirB_any W9 hd9 (hS HB9.out))
  rw [HE4.out] at HZ
  clear hd9 hb9 HR HB8 HE4
  go_wp2_with fail
  refine HZ.out.mono ?_
  rintro e WA ⟨rfl, hdA, hbA⟩
  have HBA := hide (HB9.out.trans hbA)
  have HCR := hide (crashB_rd (B := B) names _ keep WA hdA (hS HBA.out) (by decide) (by omega) (HOK.out _ HBA.out) (by rw [HBE.out]; exact HRK.out.blockLtI) (by omega))
  clear hdA hbA HZ HB9
  go_wp2_with fail
  refine HCR.out.mono ?_
  rintro e WB ⟨rfl, hdB, hbB⟩
  have HBB := hide (HBA.out.trans hbB)
  obtain ⟨x, hx, hx1, hx2⟩ := HMA.out
  have HRE := hide (readB_any 5 hm5 WB hdB (by omega))
  rw [hx] at HRE
  have HX1 := hide hx1
  have HX2 := hide hx2
  clear hdB hbB HCR HBA HMA hx hx1 hx2
  go_wp2_with fail
  refine HRE.out.mono ?_
  rintro e WC ⟨vx, rfl, hoC, hbC⟩
  have HBC := hide (HBB.out.trans (hbC.mono (hS HBB.out)))
  have hs1 := hoC.rd.str
  have hs2 := (HOB.out _ HBC.out).str
  have hs3 := (HOA.out _ HBC.out).str
  obtain ⟨xa, xc, rfl, -⟩ := hoC.rd
  have ht1 : (bs x).toList = x := bs_list x
  have ht2 : (bs b).toList = b := bs_list b
  have ht3 : (bs a).toList = a := bs_list a
  clear hoC hbC HRE
  by_cases zA : cA = 0
  case neg =>
    have zb : (cA == 0) = false := by simpa using zA
    clear zA
    rcases HX1.out with hxe | hxe
    · subst hxe
      go_wp2
      go_ret
      exact ⟨ret_bool (by simp), HBC.out⟩
    · subst hxe
      by_cases hxb : x = b
      · subst hxb
        go_wp2
        go_ret
        exact ⟨ret_bool (by simp), HBC.out⟩
      · have h1 : (x == b) = false := by simpa using hxb
        go_wp2
        go_ret
        exact ⟨ret_bool (by simp), HBC.out⟩
  by_cases zB : cB = 0
  case neg =>
    have zb : (cB == 0) = false := by simpa using zB
    clear zB
    rcases HX1.out with hxe | hxe
    · subst hxe
      go_wp2
      go_ret
      exact ⟨ret_bool (by simp), HBC.out⟩
    · subst hxe
      by_cases hxb : x = b
      · subst hxb
        go_wp2
        go_ret
        exact ⟨ret_bool (by simp), HBC.out⟩
      · have h1 : (x == b) = false := by simpa using hxb
        go_wp2
        go_ret
        exact ⟨ret_bool (by simp), HBC.out⟩
  by_cases zC : cC = 0
  case neg =>
    have zb : (cC == 0) = false := by simpa using zC
    clear zC
    rcases HX1.out with hxe | hxe
    · subst hxe
      go_wp2
      go_ret
      exact ⟨ret_bool (by simp), HBC.out⟩
    · subst hxe
      by_cases hxb : x = b
      · subst hxb
        go_wp2
        go_ret
        exact ⟨ret_bool (by simp), HBC.out⟩
      · have h1 : (x == b) = false := by simpa using hxb
        go_wp2
        go_ret
        exact ⟨ret_bool (by simp), HBC.out⟩
  by_cases zS : cS = 0
  case neg =>
    have zb : (cS == 0) = false := by simpa using zS
    clear zS
    rcases HX1.out with hxe | hxe
    · subst hxe
      go_wp2
      go_ret
      exact ⟨ret_bool (by simp), HBC.out⟩
    · subst hxe
      by_cases hxb : x = b
      · subst hxb
        go_wp2
        go_ret
        exact ⟨ret_bool (by simp), HBC.out⟩
      · have h1 : (x == b) = false := by simpa using hxb
        go_wp2
        go_ret
        exact ⟨ret_bool (by simp), HBC.out⟩
  have hxe := HX2.out zA zB zC zS
  subst zA zB zC zS
  subst hxe
  go_wp2
  go_ret
  exact ⟨ret_bool (by simp), HBC.out⟩

theorem own : ownKnob Try.prog.godebug = none := by kernel_rfl
theorem laidOut : laidOutB Try.prog = true := by kernel_rfl

set_option linter.unusedVariables false in
set_option maxRecDepth 100000 in
theorem lifted (os : Os) (started : os.Started) (H : Type) (enc : TypeId × Value → H) :
    ReturnsInHanded {} Try.checked os 5 .any (Rows.filesSwapSpec.pre6 enc Try.prog Try.f5 Rows.filesSwapRow.domain false) (Rows.filesSwapSpec.post enc Try.prog Try.f5 false true false false) := by
  refine returnsInHanded_of_change (C := Try.checked) own started (by kernel_rfl) Try.func5
    (ChangeSpec.witness6 (enc := enc) (C := Try.checked) false ⟨#[], #[.slice none 0 0, .slice none 0 0, .int .i64 0, .int .i64 0, .slice none 0 0], []⟩ 8 (by kernel_rfl) (by kernel_rfl) (by kernel_rfl) (by kernel_rfl)) ?_
  intro W base args ds gs before hval0 hW hcnd _
  have hval : ∀ (j : Nat) t v, Try.f5.params[j]? = some t → args[j]? = some v → Value.okWide Try.prog W .any base t v := hval0
  have hW' := hW
  obtain ⟨p, q, hA0, hV, rfl, hfz, hnd⟩ := hW
  have hA : DataW.TrodAll enc Try.prog W 0 (fun _ => true) true Try.f5.params.toList args.toList ds p := hA0
  rw [Try.params5] at hA hval
  obtain ⟨v0, vs0, d0, ds0, p0, q0, hargs, rfl, rfl, h0, r0⟩ := trodAll_cons hA
  obtain ⟨v1, vs1, d1, ds1, p1, q1, rfl, rfl, rfl, h1, r1⟩ := trodAll_cons r0
  obtain ⟨v2, vs2, d2, ds2, p2, q2, rfl, rfl, rfl, h2, r2⟩ := trodAll_cons r1
  obtain ⟨v3, vs3, d3, ds3, p3, q3, rfl, rfl, rfl, h3, r3⟩ := trodAll_cons r2
  obtain ⟨v4, vs4, d4, ds4, p4, q4, rfl, rfl, rfl, h4, r4⟩ := trodAll_cons r3
  obtain ⟨rfl, rfl, rfl⟩ := trodAll_nil r4
  obtain rfl : args = #[v0, v1, v2, v3, v4] := by cases args; simp_all
  obtain ⟨rfl, rfl⟩ := trodVars_none hV
  obtain ⟨a0, len0, cap0, rfl⟩ := okWide_slice Try.underlying30 (hval 0 30 v0 rfl rfl)
  have k0 := h0
  have lt0 : ∀ x ∈ p0, x.block < W.heap.size := by obtain ⟨m, hm⟩ := k0; exact DataW.trod_lt m _ _ _ hm
  obtain ⟨l0, w0⟩ : ∃ l, Rd W (.slice a0 len0 cap0) l := by
    obtain ⟨fuel, hf⟩ := h0
    rcases open_ints Try.underlying30 Try.underlying5 (by kernel_rfl) hf with ⟨hcs, _⟩ | ⟨x, l, c, zs, hcs, _, hl, hm, hz, _, hcell, hwz⟩
    · simp [Value.cells] at hcs
      obtain ⟨rfl, rfl, rfl⟩ := hcs
      exact ⟨[], Rd.nil _⟩
    · simp [Value.cells] at hcs
      obtain ⟨rfl, rfl, rfl⟩ := hcs
      exact ⟨_, Rd.ofRow hl hm (by simpa using hz) hcell hwz⟩
  obtain ⟨a1, len1, cap1, rfl⟩ := okWide_slice Try.underlying30 (hval 1 30 v1 rfl rfl)
  have k1 := h1
  have lt1 : ∀ x ∈ p1, x.block < W.heap.size := by obtain ⟨m, hm⟩ := k1; exact DataW.trod_lt m _ _ _ hm
  obtain ⟨l1, w1⟩ : ∃ l, Rd W (.slice a1 len1 cap1) l := by
    obtain ⟨fuel, hf⟩ := h1
    rcases open_ints Try.underlying30 Try.underlying5 (by kernel_rfl) hf with ⟨hcs, _⟩ | ⟨x, l, c, zs, hcs, _, hl, hm, hz, _, hcell, hwz⟩
    · simp [Value.cells] at hcs
      obtain ⟨rfl, rfl, rfl⟩ := hcs
      exact ⟨[], Rd.nil _⟩
    · simp [Value.cells] at hcs
      obtain ⟨rfl, rfl, rfl⟩ := hcs
      exact ⟨_, Rd.ofRow hl hm (by simpa using hz) hcell hwz⟩
  obtain ⟨a2, rfl, rfl, rfl, w2⟩ := open_int Try.underlying3 (hval 2 3 v2 rfl rfl) h2
  obtain ⟨a3, rfl, rfl, rfl, w3⟩ := open_int Try.underlying3 (hval 3 3 v3 rfl rfl) h3
  obtain ⟨a4, len4, cap4, rfl⟩ := okWide_slice Try.underlying31 (hval 4 31 v4 rfl rfl)
  have k4 := h4
  have lt4 : ∀ x ∈ p4, x.block < W.heap.size := by obtain ⟨m, hm⟩ := k4; exact DataW.trod_lt m _ _ _ hm
  obtain ⟨l4, w4⟩ : ∃ l, RdI W (.slice a4 len4 cap4) l := by
    obtain ⟨fuel, hf⟩ := h4
    obtain ⟨v, l, hcs, hr⟩ := open_rdI hf
    simp [Value.cells] at hcs
    subst hcs
    exact ⟨l, hr⟩
  clear hA0 hval0
  refine (walk _ l0 _ l1 a2 a3 _ l4 W w0 w1 w2 w3 w4).mono fun e W' ⟨he, bel⟩ => ?_
  subst he
  exact ⟨_, rfl, _, _, _, [], _, [], hW', trodAll_mk1 (shut_bool Try.underlying4 _), (trodAll_cons_mk (Below.trod laidOut (by kernel_rfl) (of_decide_eq_true (by kernel_rfl)) k0 bel lt0) (trodAll_cons_mk (Below.trod laidOut (by kernel_rfl) (of_decide_eq_true (by kernel_rfl)) k1 bel lt1) (trodAll_cons_mk (shut_int Try.underlying3 w2) (trodAll_cons_mk (shut_int Try.underlying3 w3) (trodAll_cons_mk (Below.trod laidOut (by kernel_rfl) (of_decide_eq_true (by kernel_rfl)) k4 bel lt4) trodAll_mk0))))), rfl, bel.frame _, fun h => by cases h⟩

theorem over : Rows.filesSwapRow.holds Try.pinned (OpenSpec.ofChange Rows.filesSwapSpec) :=
  OpenClaim.holds_of_wide 5 Try.f5 rfl rfl rfl rfl rfl rfl rfl ⟨rfl, rfl, rfl, rfl, rfl⟩ rfl rfl rfl rfl rfl (by kernel_rfl) Try.func5 (by kernel_rfl)
    (of_decide_eq_true (by kernel_rfl)) (by unfold Func.isWrapper; first | (rw [if_pos (by decide +kernel)]; kernel_rfl) | (rw [if_neg (by decide +kernel)]; exact ⟨rfl, rfl⟩))
    (fun os started H enc _ => lifted os started H enc)

end Go.Proofs.Ytfphllhcoiblkaa.filesSwap
namespace Go.Proofs.Ytfphllhcoiblkaa

theorem filesSwap_holds : Rows.FilesSwapSaid := filesSwap.over

end Go.Proofs.Ytfphllhcoiblkaa
