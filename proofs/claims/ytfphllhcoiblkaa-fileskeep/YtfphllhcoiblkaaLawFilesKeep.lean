/- Proved: for all bytes and numbers the law FilesKeep answers true (and the call leaves all older memory as it was). No condition. -/
import Derived.Test.YtfphllhcoiblkaaFilesAwake
import Derived.Test.YtfphllhcoiblkaaFilesKeepM
import Derived.OpenShut
import Derived.ChangeOld
namespace Go.Proofs.Ytfphllhcoiblkaa.filesKeep
open Go.ChangeShapes Go.WideShapes Go.ChangeAt Go.RowKit

set_option maxRecDepth 100000 in
set_option maxHeartbeats 2000000 in
theorem walk (va : Value) (a : List UInt8) (vb : Value) (b : List UInt8) (names : Int) (vk : Value) (keep : List Int) (cut : Int) (w : World) (ha : Rd w va a) (hb : Rd w vb b) (_hnm : (Lit.int .i64 names).wf = true) (hk : RdI w vk keep) (hcu : (Lit.int .i64 cut).wf = true) :
    Calls Try.prog 4 #[va, vb, .int .i64 names, vk, .int .i64 cut] w fun e w' => e = .returned (.bool true) ∧ Below w.heap.size w w' := by
  have HAW := hide (awakeF_any w)
  have HRA := hide ha
  have HRB := hide hb
  have HRK := hide hk
  have HCU := hide (i64_of_wf hcu)
  obtain ⟨aa, ac, rfl, -⟩ := ha
  obtain ⟨ba, bc, rfl, -⟩ := hb
  obtain ⟨ka, kc, rfl, -⟩ := hk
  clear hcu
  obtain ⟨B, hB⟩ : ∃ B, B = w.heap.size := ⟨_, rfl⟩
  rw [← hB] at HAW ⊢
  have HBW : Hid (B ≤ w.heap.size) := hide (by omega)
  have HBE := hide hB
  clear hB
  go_enter Try.func4, Try.ntmps4
  go_wp2_with fail
  refine HAW.out.mono ?_
  rintro e W1 ⟨rfl, hb1⟩
  have HB1 := hide hb1
  have HN := hide (newB_any B 10000 ⟨by decide, by decide⟩ W1 (Nat.le_trans HBW.out hb1.size))
  clear hb1 HAW
  go_wp2_with fail
  refine HN.out.mono ?_
  rintro e W2 ⟨p, rfl, hd2, hb2⟩
  have HD2 := hide hd2
  have HB2 := hide (HB1.out.trans hb2)
  clear hd2 hb2 HN HB1
  by_cases hla : a.length ≤ 300
  case neg =>
    have hla' : decide ((a.length : Int) > 300) = true := decide_eq_true (by omega)
    go_wp2
    go_ret
    exact ⟨rfl, HB2.out⟩
  by_cases hlb : b.length ≤ 300
  case neg =>
    have hlb' : decide ((b.length : Int) > 300) = true := decide_eq_true (by omega)
    go_wp2
    go_ret
    exact ⟨rfl, HB2.out⟩
  by_cases hlk : keep.length ≤ 300
  case neg =>
    have hlk' : decide ((keep.length : Int) > 300) = true := decide_eq_true (by omega)
    go_wp2
    go_ret
    exact ⟨rfl, HB2.out⟩
  have hS : ∀ {W : World}, Below B w W → B ≤ W.heap.size := fun h => Nat.le_trans HBW.out h.size
  have hm3 : I64 3 := ⟨by decide, by decide⟩
  obtain ⟨k1, k2, k3⟩ := kd_made (n := 3) (by decide) hla
  rw [show (10000 : Int) = 10000 from rfl] at HD2
  have HOA : Hid (∀ W, Below B w W → Rd W (.slice aa a.length ac) a) := hide (fun W h => HRA.out.below h (by rw [HBE.out]; exact Nat.le_refl _))
  have HOB : Hid (∀ W, Below B w W → Rd W (.slice ba b.length bc) b) := hide (fun W h => HRB.out.below h (by rw [HBE.out]; exact Nat.le_refl _))
  have HOK : Hid (∀ W, Below B w W → RdI W (.slice ka keep.length kc) keep) := hide (fun W h => HRK.out.below h (by rw [HBE.out]; exact Nat.le_refl _))
  have HA1 := hide (appendB_rd (B := B) 3 hm3 _ a W2 HD2.out (hS HB2.out) (HOA.out _ HB2.out) (by rw [HBE.out]; exact HRA.out.blockLt) (by decide) (by decide) (by omega))
  rw [k1] at HA1
  go_wp2_with fail
  refine HA1.out.mono ?_
  rintro e W3 ⟨rfl, hd3, hb3⟩
  have HD3 := hide hd3
  have HB3 := hide (HB2.out.trans hb3)
  have HY := hide (syncB_any 3 hm3 W3 hd3 (hS HB3.out))
  rw [k2] at HY
  clear hd3 hb3 HA1 HD2 HB2
  go_wp2_with fail
  refine HY.out.mono ?_
  rintro e W4 ⟨rfl, hd4, hb4⟩
  have HD4 := hide hd4
  have HB4 := hide (HB3.out.trans hb4)
  have HZ := hide (syncDirB_any W4 hd4 (hS HB4.out))
  rw [k3] at HZ
  clear hd4 hb4 HY HD3 HB3
  go_wp2_with fail
  refine HZ.out.mono ?_
  rintro e W5 ⟨rfl, hd5, hb5⟩
  have HB5 := hide (HB4.out.trans hb5)
  have HC := hide (cutB_any cut HCU.out W5 hd5 (hS HB5.out))
  clear hd5 hb5 HZ HD4 HB4
  go_wp2_with fail
  refine HC.out.mono ?_
  rintro e W6 ⟨rfl, hd6, hb6⟩
  obtain ⟨q, hq⟩ : ∃ q, q = max cut 0 := ⟨_, rfl⟩
  have HD6 : Hid (DskB B W6 p (kd 3 a q) 6 (0 + a.length)) := hide (by rw [hq]; exact hd6)
  have HB6 := hide (HB5.out.trans hb6)
  have HA2 := hide (appendB_rd (B := B) 3 hm3 _ b W6 HD6.out (hS HB6.out) (HOB.out _ HB6.out) (by rw [HBE.out]; exact HRB.out.blockLt) (by decide) (by omega) (by omega))
  clear hd6 hb6 HC HB5 hq HD6
  obtain ⟨D7, hD7⟩ : ∃ D7, D7 = (appendD (kd 3 a q) 3 b).1 := ⟨_, rfl⟩
  rw [← hD7] at HA2
  have HMA := hide (keep_math hla hlb names keep q)
  rw [← hD7] at HMA
  go_wp2_with fail
  refine HA2.out.mono ?_
  rintro e W7 ⟨rfl, hd7, hb7⟩
  have HB7 := hide (HB6.out.trans hb7)
  have HCR := hide (crashB_rd (B := B) names _ keep W7 hd7 (hS HB7.out) (by decide) (by omega) (HOK.out _ HB7.out) (by rw [HBE.out]; exact HRK.out.blockLtI) (by omega))
  clear hd7 hb7 HA2 HB6 hD7
  go_wp2_with fail
  refine HCR.out.mono ?_
  rintro e W8 ⟨rfl, hd8, hb8⟩
  have HB8 := hide (HB7.out.trans hb8)
  obtain ⟨x, hx, hx1, hx2, hx3⟩ := HMA.out
  have HRE := hide (readB_any 3 hm3 W8 hd8 (by omega))
  rw [hx] at HRE
  have HX3 := hide hx3
  clear hd8 hb8 HCR HB7 HMA hx hx3
  go_wp2_with fail
  refine HRE.out.mono ?_
  rintro e W9 ⟨vx, rfl, ho9, hb9⟩
  have HB9 := hide (HB8.out.trans (hb9.mono (hS HB8.out)))
  have HV9 := hide ho9
  obtain ⟨xa, xc, rfl, -⟩ := ho9.rd
  clear ho9 hb9 HRE
  have HS9 : Hid (B ≤ W9.heap.size) := hide (hS HB9.out)
  have HRA9 := hide (HOA.out _ HB9.out)
  go_wp2_with (at_builtin; refine (fun (h : True → _) => h trivial) ?_)
  intro _
  refine wpList_append_rd W9 rfl _ _ rfl W9.heap.size _ [] rfl (Own.nil _ _) _ a rfl HRA9.out (by simp; omega) (Nat.le_refl _) ?_
  intro vA WA hoA hbA
  have HOA2 := hide hoA
  have HBA := hide hbA
  have HRBA := hide (HRB.out.below (HB9.out.trans (hbA.mono HS9.out)) (by rw [HBE.out]; exact Nat.le_refl _))
  obtain ⟨va1, vc1, rfl, -⟩ := hoA.rd
  clear hoA hbA HRA9
  go_wp2_with (at_builtin; refine (fun (h : True → _) => h trivial) ?_)
  intro _
  refine wpList_append_rd WA rfl _ _ rfl W9.heap.size _ _ rfl HOA2.out _ b rfl HRBA.out (by simp; omega) HBA.out.size ?_
  intro vC WC hoC hbC
  have HBC : Hid (Below B w WC) := hide ((HB9.out.trans (HBA.out.mono HS9.out)).trans (hbC.mono HS9.out))
  rw [List.nil_append] at hoC
  have HXR : Hid (Rd WC (.slice xa x.length xc) x) := hide (HV9.out.rd.below ((HBA.out.trans hbC)) (Nat.le_refl _))
  obtain ⟨L, hL⟩ : ∃ L, L = a ++ b := ⟨_, rfl⟩
  rw [← hL] at hoC hx2 HX3
  have hL2 : L.length ≤ 600 := by rw [hL, List.length_append]; omega
  obtain ⟨ca, cc, hcv, hcl, hcao⟩ := rowHeadB hoC
  subst hcv
  have HCO := hide hoC
  have hlx : decide ((x.length : Int) < (a.length : Int)) = false := decide_eq_false (by omega)
  have hlx2 : decide ((x.length : Int) > (L.length : Int)) = false := decide_eq_false (by omega)
  have hxc : (x.length : Int) ≤ (cc : Int) := by omega
  have hs1 : ∀ q, (convert 30 9 (.slice xa x.length xc)).run Try.prog (WC.drewN q) = .ok (.string (bs x)) (WC.drewN q) := fun q => (HXR.out.below (below_drewN (Below.refl _ _) q) (Nat.le_refl _)).str
  have hs2 : ∀ q, (convert 30 9 (.slice ca x.length cc)).run Try.prog (WC.drewN q) = .ok (.string (bs x)) (WC.drewN q) := fun q => by
    have h1 := ((HCO.out.rd).front x.length hx2).below (below_drewN (Below.refl WC.heap.size WC) q) (Nat.le_refl _)
    rw [← HX3.out] at h1
    exact h1.str
  have HBQ : Hid (∀ q, Below B w (WC.drewN q)) := hide (fun q => below_drewN HBC.out q)
  have hlx3 : decide (x.length < a.length) = false := decide_eq_false (by omega)
  have hlx4 : decide (L.length < x.length) = false := decide_eq_false (by omega)
  clear hoC hbC hL HBA HOA2 HRBA HX3 HV9 HB9
  go_upto_region 15 with fail
  go_quiet (fail)
  go_wp2
  go_ret
  exact ⟨ret_bool (by simp), HBQ.out _⟩

theorem own : ownKnob Try.prog.godebug = none := by kernel_rfl
theorem laidOut : laidOutB Try.prog = true := by kernel_rfl

set_option linter.unusedVariables false in
set_option maxRecDepth 100000 in
theorem lifted (os : Os) (started : os.Started) (H : Type) (enc : TypeId × Value → H) :
    ReturnsInHanded {} Try.checked os 4 .any (Rows.filesKeepSpec.pre6 enc Try.prog Try.f4 Rows.filesKeepRow.domain false) (Rows.filesKeepSpec.post enc Try.prog Try.f4 false true false false) := by
  refine returnsInHanded_of_change (C := Try.checked) own started (by kernel_rfl) Try.func4
    (ChangeSpec.witness6 (enc := enc) (C := Try.checked) false ⟨#[], #[.slice none 0 0, .slice none 0 0, .int .i64 0, .slice none 0 0, .int .i64 0], []⟩ 8 (by kernel_rfl) (by kernel_rfl) (by kernel_rfl) (by kernel_rfl)) ?_
  intro W base args ds gs before hval0 hW hcnd _
  have hval : ∀ (j : Nat) t v, Try.f4.params[j]? = some t → args[j]? = some v → Value.okWide Try.prog W .any base t v := hval0
  have hW' := hW
  obtain ⟨p, q, hA0, hV, rfl, hfz, hnd⟩ := hW
  have hA : DataW.TrodAll enc Try.prog W 0 (fun _ => true) true Try.f4.params.toList args.toList ds p := hA0
  rw [Try.params4] at hA hval
  obtain ⟨v0, vs0, d0, ds0, p0, q0, hargs, rfl, rfl, h0, r0⟩ := trodAll_cons hA
  obtain ⟨v1, vs1, d1, ds1, p1, q1, rfl, rfl, rfl, h1, r1⟩ := trodAll_cons r0
  obtain ⟨v2, vs2, d2, ds2, p2, q2, rfl, rfl, rfl, h2, r2⟩ := trodAll_cons r1
  obtain ⟨v3, vs3, d3, ds3, p3, q3, rfl, rfl, rfl, h3, r3⟩ := trodAll_cons r2
  obtain ⟨v4, vs4, d4, ds4, p4, q4, rfl, rfl, rfl, h4, r4⟩ := trodAll_cons r3
  obtain ⟨rfl, rfl, rfl⟩ := trodAll_nil r4
  obtain rfl : args = #[v0, v1, v2, v3, v4] := by cases args; simp_all
  obtain ⟨rfl, rfl⟩ := trodVars_none hV
  obtain ⟨a0, len0, cap0, rfl⟩ := okWide_slice Try.underlying30 (hval 0 30 v0 rfl rfl)
  have k0 := h0
  have lt0 : ∀ x ∈ p0, x.block < W.heap.size := by obtain ⟨m, hm⟩ := k0; exact DataW.trod_lt m _ _ _ hm
  obtain ⟨l0, w0⟩ : ∃ l, Rd W (.slice a0 len0 cap0) l := by
    obtain ⟨fuel, hf⟩ := h0
    rcases open_ints Try.underlying30 Try.underlying5 (by kernel_rfl) hf with ⟨hcs, _⟩ | ⟨x, l, c, zs, hcs, _, hl, hm, hz, _, hcell, hwz⟩
    · simp [Value.cells] at hcs
      obtain ⟨rfl, rfl, rfl⟩ := hcs
      exact ⟨[], Rd.nil _⟩
    · simp [Value.cells] at hcs
      obtain ⟨rfl, rfl, rfl⟩ := hcs
      exact ⟨_, Rd.ofRow hl hm (by simpa using hz) hcell hwz⟩
  obtain ⟨a1, len1, cap1, rfl⟩ := okWide_slice Try.underlying30 (hval 1 30 v1 rfl rfl)
  have k1 := h1
  have lt1 : ∀ x ∈ p1, x.block < W.heap.size := by obtain ⟨m, hm⟩ := k1; exact DataW.trod_lt m _ _ _ hm
  obtain ⟨l1, w1⟩ : ∃ l, Rd W (.slice a1 len1 cap1) l := by
    obtain ⟨fuel, hf⟩ := h1
    rcases open_ints Try.underlying30 Try.underlying5 (by kernel_rfl) hf with ⟨hcs, _⟩ | ⟨x, l, c, zs, hcs, _, hl, hm, hz, _, hcell, hwz⟩
    · simp [Value.cells] at hcs
      obtain ⟨rfl, rfl, rfl⟩ := hcs
      exact ⟨[], Rd.nil _⟩
    · simp [Value.cells] at hcs
      obtain ⟨rfl, rfl, rfl⟩ := hcs
      exact ⟨_, Rd.ofRow hl hm (by simpa using hz) hcell hwz⟩
  obtain ⟨a2, rfl, rfl, rfl, w2⟩ := open_int Try.underlying3 (hval 2 3 v2 rfl rfl) h2
  obtain ⟨a3, len3, cap3, rfl⟩ := okWide_slice Try.underlying31 (hval 3 31 v3 rfl rfl)
  have k3 := h3
  have lt3 : ∀ x ∈ p3, x.block < W.heap.size := by obtain ⟨m, hm⟩ := k3; exact DataW.trod_lt m _ _ _ hm
  obtain ⟨l3, w3⟩ : ∃ l, RdI W (.slice a3 len3 cap3) l := by
    obtain ⟨fuel, hf⟩ := h3
    obtain ⟨v, l, hcs, hr⟩ := open_rdI hf
    simp [Value.cells] at hcs
    subst hcs
    exact ⟨l, hr⟩
  obtain ⟨a4, rfl, rfl, rfl, w4⟩ := open_int Try.underlying3 (hval 4 3 v4 rfl rfl) h4
  clear hA0 hval0
  refine (walk _ l0 _ l1 a2 _ l3 a4 W w0 w1 w2 w3 w4).mono fun e W' ⟨he, bel⟩ => ?_
  subst he
  exact ⟨_, rfl, _, _, _, [], _, [], hW', trodAll_mk1 (shut_bool Try.underlying4 _), (trodAll_cons_mk (Below.trod laidOut (by kernel_rfl) (of_decide_eq_true (by kernel_rfl)) k0 bel lt0) (trodAll_cons_mk (Below.trod laidOut (by kernel_rfl) (of_decide_eq_true (by kernel_rfl)) k1 bel lt1) (trodAll_cons_mk (shut_int Try.underlying3 w2) (trodAll_cons_mk (Below.trod laidOut (by kernel_rfl) (of_decide_eq_true (by kernel_rfl)) k3 bel lt3) (trodAll_cons_mk (shut_int Try.underlying3 w4) trodAll_mk0))))), rfl, bel.frame _, fun h => by cases h⟩

theorem over : Rows.filesKeepRow.holds Try.pinned (OpenSpec.ofChange Rows.filesKeepSpec) :=
  OpenClaim.holds_of_wide 4 Try.f4 rfl rfl rfl rfl rfl rfl rfl ⟨rfl, rfl, rfl, rfl, rfl⟩ rfl rfl rfl rfl rfl (by kernel_rfl) Try.func4 (by kernel_rfl)
    (of_decide_eq_true (by kernel_rfl)) (by unfold Func.isWrapper; first | (rw [if_pos (by decide +kernel)]; kernel_rfl) | (rw [if_neg (by decide +kernel)]; exact ⟨rfl, rfl⟩))
    (fun os started H enc _ => lifted os started H enc)

end Go.Proofs.Ytfphllhcoiblkaa.filesKeep
namespace Go.Proofs.Ytfphllhcoiblkaa

theorem filesKeep_holds : Rows.FilesKeepSaid := filesKeep.over

end Go.Proofs.Ytfphllhcoiblkaa
