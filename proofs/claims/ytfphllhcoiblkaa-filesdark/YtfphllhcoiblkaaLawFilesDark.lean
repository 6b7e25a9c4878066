/- Proved: for every room, every calls and every name the law FilesDark answers true (and the call leaves all older memory as it was). No condition. -/
import Derived.Test.YtfphllhcoiblkaaFilesFew
import Derived.Test.YtfphllhcoiblkaaFilesLawM
import Derived.Deep.RegionHeld
import Derived.OpenShut
import Derived.ChangeOld
namespace Go.Proofs.Ytfphllhcoiblkaa.filesDark
open Go.ChangeShapes Go.WideShapes Go.ChangeAt Go.RowKit

theorem textA (w : World) : Rd (textW w #[.int .u8 97]) (.slice (some ⟨w.heap.size, 0, none⟩) 1 1) [97] := by
  refine ⟨_, 1, rfl, by decide, by decide, (fun e => by cases e), .inr ⟨_, _, rfl, ?_⟩⟩
  intro j hj
  rw [Nat.zero_add, textW_cell]
  match j, hj with
  | 0, _ => rfl

theorem below_drew1 {B : Nat} {a w : World} (h : Below B a w) : Below B a w.drew := h.drew

theorem cut_dark (d : Dk) : (cutD d 0).power = 0 := by
  show (if d.power = 0 then 0 else max 0 0) = (0 : Int)
  split <;> rfl

set_option maxRecDepth 100000 in
set_option maxHeartbeats 8000000 in
theorem walk (room : Int) (v : Value) (l : List FOp) (name : Int) (w : World) (hrm : (Lit.int .i64 room).wf = true) (hl : RdP w v l) (hnm : (Lit.int .i64 name).wf = true) :
    Calls Try.prog 8 #[.int .i64 room, v, .int .i64 name] w fun e w' => e = .returned (.bool true) ∧ Below w.heap.size w w' := by
  have HAW := hide (awakeF_any w)
  have HRL := hide hl
  have HNI := hide (i64_of_wf hnm)
  have HRI := hide (i64_of_wf hrm)
  obtain ⟨la, lc, rfl, -⟩ := hl
  clear hnm hrm
  obtain ⟨B, hB⟩ : ∃ B, B = w.heap.size := ⟨_, rfl⟩
  rw [← hB] at HAW ⊢
  have HBW : Hid (B ≤ w.heap.size) := hide (by omega)
  have HBE := hide hB
  clear hB
  have hS : ∀ {W : World}, Below B w W → B ≤ W.heap.size := fun h => Nat.le_trans HBW.out h.size
  go_enter Try.func8, Try.ntmps8
  go_wp2_with fail
  refine HAW.out.mono ?_
  rintro e W1 ⟨rfl, hb1⟩
  have HB1 := hide hb1
  have HFW := hide (fewF_any _ l W1 (HRL.out.below hb1 (by rw [HBE.out]; exact Nat.le_refl _)))
  clear hb1 HAW
  go_wp2_with fail
  refine HFW.out.mono ?_
  rintro e W1' ⟨FB, rfl, hfw, rfl⟩
  have HFP := hide hfw
  have HN := hide (newB_any B room HRI.out W1' (hS HB1.out))
  clear hfw HFW
  go_wp2_with fail
  refine HN.out.mono ?_
  rintro e W2 ⟨p, rfl, hd2, hb2⟩
  have HD2 := hide hd2
  have HB2 := hide (HB1.out.trans hb2)
  clear hd2 hb2 HN
  cases FB with
  | false =>
    go_wp2
    go_ret
    exact ⟨rfl, HB2.out⟩
  | true =>
  have HFEW := hide (HFP.out rfl)
  have hlen := HFEW.out.1
  clear HFP HB1
  have hcv1 := conv_text W2 #[.int .u8 97] 1 1
  have HT1 := hide (textA W2)
  have HTB1 := hide (textW_below W2 #[.int .u8 97])
  obtain ⟨T1, hT1⟩ : ∃ T, T = textW W2 #[.int .u8 97] := ⟨_, rfl⟩
  rw [← hT1] at hcv1 HT1 HTB1
  clear hT1
  have HA := hide (appendB_new (B := B) name HNI.out _ _ W2 T1 HD2.out HTB1.out (hS HB2.out) HT1.out (newOut _ _ _) (by decide) (by decide) (by decide))
  have HBT : Hid (Below B w T1) := hide (HB2.out.trans (HTB1.out.mono (hS HB2.out)))
  obtain ⟨⟨D1, c1⟩, hD1⟩ : ∃ r, r = appendD (newD room) name [97] := ⟨_, rfl⟩
  rw [← hD1] at HA
  clear HT1 HTB1 HB2 HD2 hD1
  go_wp2_with fail
  refine HA.out.mono ?_
  rintro e W3 ⟨rfl, hd3, hb3⟩
  have HD3 : Hid (DskB B W3 p D1 2 1) := hide hd3
  have HB3 := hide (HBT.out.trans hb3)
  have HUS := hide (usedB_any W3 HD3.out)
  have HCU := hide (cutB_any 0 ⟨by decide, by decide⟩ W3 HD3.out (hS HB3.out))
  clear hd3 hb3 HA HBT hcv1
  go_wp2_with fail
  refine HUS.out.mono ?_
  rintro e W3' ⟨rfl, rfl⟩
  go_wp2_with fail
  refine HCU.out.mono ?_
  rintro e W4 ⟨rfl, hd4, hb4⟩
  obtain ⟨D, hD⟩ : ∃ D, D = cutD D1 0 := ⟨_, rfl⟩
  have HPW0 : Hid (D.power = 0) := hide (by rw [hD]; exact cut_dark D1)
  have HPW : Hid ((D.power != 0) = false) := hide (by rw [HPW0.out]; rfl)
  obtain ⟨U, hU⟩ : ∃ U, U = (usedD D1 : Int) := ⟨_, rfl⟩
  have HUD : Hid ((usedD D : Int) = U) := hide (by rw [hU, hD]; rfl)
  have HD4 : Hid (DskB B W4 p D 2 1) := hide (by rw [hD]; exact hd4)
  have HB4 := hide (HB3.out.trans hb4)
  rw [← hU]
  clear hd4 hb4 HCU HUS HD3 HB3 hD hU
  go_wp2
  go_loopw [11] (fun vi wr => ∃ i : Nat, vi = .int .i64 (i : Int) ∧ i ≤ l.length ∧ Hid (DskB B wr p D (2 + 2 * i) (1 + 300 * i)) ∧ Hid (Below B w wr)) (fun vi _ => l.length - (intOf vi).toNat)
  case atStart => exact ⟨0, rfl, Nat.zero_le _, HD4, HB4⟩
  case round =>
    clear HD4 HB4
    obtain ⟨i, rfl, hil, HD, HB⟩ := hrel
    by_cases hlt : i < l.length
    case neg =>
      have HCR := hide (crashB_rd (B := B) 0 _ [] wr HD.out (hS HB.out) (by omega) (by omega) (RdI.nil wr) (.inl rfl) (by decide))
      have hi2 : i = l.length := by omega
      clear hlt
      subst hi2
      go_wp2_with fail
      refine HCR.out.mono ?_
      rintro e W5 ⟨rfl, hd5, hb5⟩
      have HB5 := hide (HB.out.trans hb5)
      have HOn := hide (onB_any W5 hd5)
      have HSy := hide (syncDirB_any W5 hd5 (hS HB5.out))
      rw [show ((crashD D 0 []).power != 0) = true from rfl] at HOn
      rw [show (syncDirD (crashD D 0 [])).2 = 0 from rfl] at HSy
      clear hd5 hb5 HCR
      go_wp2_with fail
      refine HOn.out.mono ?_
      rintro e W6 ⟨rfl, rfl⟩
      go_wp2_with fail
      refine HSy.out.mono ?_
      rintro e W7 ⟨rfl, hd7, hb7⟩
      have HB7 := hide (HB5.out.trans hb7)
      clear hd7 hb7
      go_wp2
      go_ret
      exact ⟨rfl, HB7.out⟩
    have HLT := hide hlt
    have hib : i ≤ 150 := by omega
    obtain ⟨x, rb, off, ba, bc, ka, kc, hx, hao, ho⟩ := HRL.out.at hlt
    have HSM := hide (HFEW.out.2 i x hx)
    have HOP := hide ho
    have HOW := hide (ho.below HB.out (by rw [HBE.out]; exact Nat.le_refl _))
    subst hao
    have c0 := HOW.out.c0
    have c1 := HOW.out.c1
    have c2 := HOW.out.c2
    have c3 := HOW.out.c3
    have HXI := hide (And.intro ho.i1 ho.i2)
    have HBL : Hid (x.b = [] ∨ ∀ k, (Value.slice ba x.b.length bc).ownBlock = some k → k < B) := hide (by rw [HBE.out]; exact ho.rb.blockLt)
    have HRB := hide HOW.out.rb
    obtain ⟨K, hK⟩ : ∃ K, K = x.kind := ⟨_, rfl⟩
    obtain ⟨nm, hnm⟩ : ∃ nm, nm = x.name := ⟨_, rfl⟩
    obtain ⟨xn, hxn⟩ : ∃ xn, xn = x.n := ⟨_, rfl⟩
    obtain ⟨bl, hbl⟩ : ∃ bl, bl = x.b := ⟨_, rfl⟩
    rw [← hK] at c0
    rw [← hnm] at c1 HXI
    rw [← hxn] at c2 HXI
    rw [← hbl] at c3 HBL HRB HSM
    have HOP2 : Hid (∀ W, Below B w W → W.cell? ⟨rb, off + i * 5 + 1, none⟩ = some (.int .i64 nm) ∧ W.cell? ⟨rb, off + i * 5 + 2, none⟩ = some (.int .i64 xn) ∧ W.cell? ⟨rb, off + i * 5 + 3, none⟩ = some (.slice ba bl.length bc)) := hide (fun W h => by
      have hh := HOP.out.below h (by rw [HBE.out]; exact Nat.le_refl _)
      rw [hnm, hxn, hbl]
      exact ⟨hh.c1, hh.c2, hh.c3⟩)
    have hb3 := HSM.out.1
    clear hlt hx ho hK hnm hxn hbl HOP HOW HSM
    by_cases k0 : K = 0
    · subst k0
      have HC := hide (appendB_rd (B := B) nm HXI.out.1 _ bl wr.drew (HD.out.below (below_drew1 (Below.refl _ _))) (hS (below_drew1 HB.out)) (HRB.out.below (below_drew1 (Below.refl _ _)) (Nat.le_refl _)) HBL.out (by omega) (by omega) (by omega))
      rw [dark_append HPW0.out] at HC
      have HKP : Hid (∀ W, Below B w W → W.cell? ⟨rb, off + i * 5 + 1, none⟩ = some (.int .i64 nm) ∧ W.cell? ⟨rb, off + i * 5 + 3, none⟩ = some (.slice ba bl.length bc)) := hide (fun W h => ⟨(HOP2.out W h).1, (HOP2.out W h).2.2⟩)
      clear HOP2
      go_upto_region 15 with fail
      go_region_held (fun W => W.cell? ⟨rb, off + i * 5 + 1, none⟩ = some (.int .i64 nm) ∧ W.cell? ⟨rb, off + i * 5 + 3, none⟩ = some (.slice ba bl.length bc))
        (first | (with_reducible refine HKP.out _ ?_; first | (with_reducible exact HB.out) | (with_reducible exact below_drew1 HB.out) | (with_reducible exact HB2.out)))
        (first | (go_at_call 20; refine HC.out.mono ?_; rintro e W2 ⟨rfl, hd2, hb2⟩; have HD2 := hide hd2; have HB2 := hide ((below_drew1 HB.out).trans hb2); clear hd2 hb2 HC))
      all_goals
        have HOn := hide (onB_any W2 HD2.out)
        have HUs := hide (usedB_any W2 HD2.out)
        rw [HPW.out] at HOn
        rw [HUD.out] at HUs
        go_wp2_with fail
        refine HOn.out.mono ?_
        rintro e W' ⟨rfl, rfl⟩
        go_wp2_with fail
        refine HUs.out.mono ?_
        rintro e W' ⟨rfl, rfl⟩
        go_wp2
        go_roundw
        case rel => exact ⟨i + 1, by go_num, by have := HLT.out; omega, hide (HD2.out.mono (by omega) (by omega)), HB2⟩
        case measure => have := HLT.out; simp [intOf]; omega
    by_cases k1 : K = 1
    · subst k1
      have HC := hide (readB_any nm HXI.out.1 wr HD.out (by omega))
      rw [dark_read HPW0.out] at HC
      go_wp2_with fail
      refine HC.out.mono ?_
      rintro e W2 ⟨v2, rfl, ho2, hb2⟩
      obtain ⟨va2, vc2, rfl, -⟩ := ho2.rd
      have HD2 := hide (HD.out.below hb2)
      have HB2 := hide (HB.out.trans (hb2.mono (hS HB.out)))
      clear hb2 ho2 HC
      have HOn := hide (onB_any W2 HD2.out)
      have HUs := hide (usedB_any W2 HD2.out)
      rw [HPW.out] at HOn
      rw [HUD.out] at HUs
      go_wp2_with fail
      refine HOn.out.mono ?_
      rintro e W' ⟨rfl, rfl⟩
      go_wp2_with fail
      refine HUs.out.mono ?_
      rintro e W' ⟨rfl, rfl⟩
      go_wp2
      go_roundw
      case rel => exact ⟨i + 1, by go_num, by have := HLT.out; omega, hide (HD2.out.mono (by omega) (by omega)), HB2⟩
      case measure => have := HLT.out; simp [intOf]; omega
    by_cases k2 : K = 2
    · subst k2
      have HC := hide (syncB_any nm HXI.out.1 wr HD.out (hS HB.out))
      rw [dark_sync HPW0.out] at HC
      go_wp2_with fail
      refine HC.out.mono ?_
      rintro e W2 ⟨rfl, hd2, hb2⟩
      have HD2 := hide hd2
      have HB2 := hide (HB.out.trans hb2)
      clear hd2 hb2 HC
      have HOn := hide (onB_any W2 HD2.out)
      have HUs := hide (usedB_any W2 HD2.out)
      rw [HPW.out] at HOn
      rw [HUD.out] at HUs
      go_wp2_with fail
      refine HOn.out.mono ?_
      rintro e W' ⟨rfl, rfl⟩
      go_wp2_with fail
      refine HUs.out.mono ?_
      rintro e W' ⟨rfl, rfl⟩
      go_wp2
      go_roundw
      case rel => exact ⟨i + 1, by go_num, by have := HLT.out; omega, hide (HD2.out.mono (by omega) (by omega)), HB2⟩
      case measure => have := HLT.out; simp [intOf]; omega
    by_cases k3 : K = 3
    · subst k3
      have HC := hide (renameB_any (B := B) nm xn HXI.out.1 HXI.out.2 wr.drew (HD.out.below (below_drew1 (Below.refl _ _))) (hS (below_drew1 HB.out)) (by omega) (by omega))
      rw [dark_rename HPW0.out] at HC
      have HKP : Hid (∀ W, Below B w W → W.cell? ⟨rb, off + i * 5 + 1, none⟩ = some (.int .i64 nm) ∧ W.cell? ⟨rb, off + i * 5 + 2, none⟩ = some (.int .i64 xn)) := hide (fun W h => ⟨(HOP2.out W h).1, (HOP2.out W h).2.1⟩)
      clear HOP2
      go_upto_region 21 with fail
      go_region_held (fun W => W.cell? ⟨rb, off + i * 5 + 1, none⟩ = some (.int .i64 nm) ∧ W.cell? ⟨rb, off + i * 5 + 2, none⟩ = some (.int .i64 xn))
        (first | (with_reducible refine HKP.out _ ?_; first | (with_reducible exact HB.out) | (with_reducible exact below_drew1 HB.out) | (with_reducible exact HB2.out)))
        (first | (go_at_call 26; refine HC.out.mono ?_; rintro e W2 ⟨rfl, hd2, hb2⟩; have HD2 := hide hd2; have HB2 := hide ((below_drew1 HB.out).trans hb2); clear hd2 hb2 HC))
      all_goals
        have HOn := hide (onB_any W2 HD2.out)
        have HUs := hide (usedB_any W2 HD2.out)
        rw [HPW.out] at HOn
        rw [HUD.out] at HUs
        go_wp2_with fail
        refine HOn.out.mono ?_
        rintro e W' ⟨rfl, rfl⟩
        go_wp2_with fail
        refine HUs.out.mono ?_
        rintro e W' ⟨rfl, rfl⟩
        go_wp2
        go_roundw
        case rel => exact ⟨i + 1, by go_num, by have := HLT.out; omega, hide (HD2.out.mono (by omega) (by omega)), HB2⟩
        case measure => have := HLT.out; simp [intOf]; omega
    by_cases k4 : K = 4
    · subst k4
      have HC := hide (removeB_any nm HXI.out.1 wr HD.out (hS HB.out) (by omega) (by omega))
      rw [dark_remove HPW0.out] at HC
      go_wp2_with fail
      refine HC.out.mono ?_
      rintro e W2 ⟨rfl, hd2, hb2⟩
      have HD2 := hide hd2
      have HB2 := hide (HB.out.trans hb2)
      clear hd2 hb2 HC
      have HOn := hide (onB_any W2 HD2.out)
      have HUs := hide (usedB_any W2 HD2.out)
      rw [HPW.out] at HOn
      rw [HUD.out] at HUs
      go_wp2_with fail
      refine HOn.out.mono ?_
      rintro e W' ⟨rfl, rfl⟩
      go_wp2_with fail
      refine HUs.out.mono ?_
      rintro e W' ⟨rfl, rfl⟩
      go_wp2
      go_roundw
      case rel => exact ⟨i + 1, by go_num, by have := HLT.out; omega, hide (HD2.out.mono (by omega) (by omega)), HB2⟩
      case measure => have := HLT.out; simp [intOf]; omega
    by_cases k5 : K = 5
    · subst k5
      have HC := hide (syncDirB_any wr HD.out (hS HB.out))
      rw [dark_syncDir HPW0.out] at HC
      go_wp2_with fail
      refine HC.out.mono ?_
      rintro e W2 ⟨rfl, hd2, hb2⟩
      have HD2 := hide hd2
      have HB2 := hide (HB.out.trans hb2)
      clear hd2 hb2 HC
      have HOn := hide (onB_any W2 HD2.out)
      have HUs := hide (usedB_any W2 HD2.out)
      rw [HPW.out] at HOn
      rw [HUD.out] at HUs
      go_wp2_with fail
      refine HOn.out.mono ?_
      rintro e W' ⟨rfl, rfl⟩
      go_wp2_with fail
      refine HUs.out.mono ?_
      rintro e W' ⟨rfl, rfl⟩
      go_wp2
      go_roundw
      case rel => exact ⟨i + 1, by go_num, by have := HLT.out; omega, hide (HD2.out.mono (by omega) (by omega)), HB2⟩
      case measure => have := HLT.out; simp [intOf]; omega
    have z0 : (K == 0) = false := by simpa using k0
    have z1 : (K == 1) = false := by simpa using k1
    have z2 : (K == 2) = false := by simpa using k2
    have z3 : (K == 3) = false := by simpa using k3
    have z4 : (K == 4) = false := by simpa using k4
    have z5 : (K == 5) = false := by simpa using k5
    clear k0 k1 k2 k3 k4 k5
    have HOn := hide (onB_any wr HD.out)
    have HUs := hide (usedB_any wr HD.out)
    rw [HPW.out] at HOn
    rw [HUD.out] at HUs
    go_wp2_with fail
    refine HOn.out.mono ?_
    rintro e W' ⟨rfl, rfl⟩
    go_wp2_with fail
    refine HUs.out.mono ?_
    rintro e W' ⟨rfl, rfl⟩
    go_wp2
    go_roundw
    case rel => exact ⟨i + 1, by go_num, by have := HLT.out; omega, hide (HD.out.mono (by omega) (by omega)), HB⟩
    case measure => have := HLT.out; simp [intOf]; omega

theorem own : ownKnob Try.prog.godebug = none := by kernel_rfl
theorem laidOut : laidOutB Try.prog = true := by kernel_rfl

set_option linter.unusedVariables false in
set_option maxRecDepth 100000 in
theorem lifted (os : Os) (started : os.Started) (H : Type) (enc : TypeId × Value → H) :
    ReturnsInHanded {} Try.checked os 8 .any (Rows.filesDarkSpec.pre6 enc Try.prog Try.f8 Rows.filesDarkRow.domain false) (Rows.filesDarkSpec.post enc Try.prog Try.f8 false true false false) := by
  refine returnsInHanded_of_change (C := Try.checked) own started (by kernel_rfl) Try.func8
    (ChangeSpec.witness6 (enc := enc) (C := Try.checked) false ⟨#[], #[.int .i64 0, .slice none 0 0, .int .i64 0], []⟩ 8 (by kernel_rfl) (by kernel_rfl) (by kernel_rfl) (by kernel_rfl)) ?_
  intro W base args ds gs before hval0 hW hcnd _
  have hval : ∀ (j : Nat) t v, Try.f8.params[j]? = some t → args[j]? = some v → Value.okWide Try.prog W .any base t v := hval0
  have hW' := hW
  obtain ⟨p, q, hA0, hV, rfl, hfz, hnd⟩ := hW
  have hA : DataW.TrodAll enc Try.prog W 0 (fun _ => true) true Try.f8.params.toList args.toList ds p := hA0
  rw [Try.params8] at hA hval
  obtain ⟨v0, vs0, d0, ds0, p0, q0, hargs, rfl, rfl, h0, r0⟩ := trodAll_cons hA
  obtain ⟨v1, vs1, d1, ds1, p1, q1, rfl, rfl, rfl, h1, r1⟩ := trodAll_cons r0
  obtain ⟨v2, vs2, d2, ds2, p2, q2, rfl, rfl, rfl, h2, r2⟩ := trodAll_cons r1
  obtain ⟨rfl, rfl, rfl⟩ := trodAll_nil r2
  obtain rfl : args = #[v0, v1, v2] := by cases args; simp_all
  obtain ⟨rfl, rfl⟩ := trodVars_none hV
  obtain ⟨a0, rfl, rfl, rfl, w0⟩ := open_int Try.underlying3 (hval 0 3 v0 rfl rfl) h0
  obtain ⟨a1, len1, cap1, rfl⟩ := okWide_slice Try.underlying22 (hval 1 22 v1 rfl rfl)
  have k1 := h1
  have lt1 : ∀ x ∈ p1, x.block < W.heap.size := by obtain ⟨m, hm⟩ := k1; exact DataW.trod_lt m _ _ _ hm
  obtain ⟨l1, w1⟩ : ∃ l, RdP W (.slice a1 len1 cap1) l := by
    obtain ⟨fuel, hf⟩ := h1
    obtain ⟨v, l, hcs, hr⟩ := open_fops hf
    simp [Value.cells] at hcs
    subst hcs
    exact ⟨l, hr⟩
  obtain ⟨a2, rfl, rfl, rfl, w2⟩ := open_int Try.underlying3 (hval 2 3 v2 rfl rfl) h2
  clear hA0 hval0
  refine (walk a0 _ l1 a2 W w0 w1 w2).mono fun e W' ⟨he, bel⟩ => ?_
  subst he
  exact ⟨_, rfl, _, _, _, [], _, [], hW', trodAll_mk1 (shut_bool Try.underlying4 _), (trodAll_cons_mk (shut_int Try.underlying3 w0) (trodAll_cons_mk (Below.trod laidOut (by kernel_rfl) (of_decide_eq_true (by kernel_rfl)) k1 bel lt1) (trodAll_cons_mk (shut_int Try.underlying3 w2) trodAll_mk0))), rfl, bel.frame _, fun h => by cases h⟩

theorem over : Rows.filesDarkRow.holds Try.pinned (OpenSpec.ofChange Rows.filesDarkSpec) :=
  OpenClaim.holds_of_wide 8 Try.f8 rfl rfl rfl rfl rfl rfl rfl ⟨rfl, rfl, rfl, rfl, rfl⟩ rfl rfl rfl rfl rfl (by kernel_rfl) Try.func8 (by kernel_rfl)
    (of_decide_eq_true (by kernel_rfl)) (by unfold Func.isWrapper; first | (rw [if_pos (by decide +kernel)]; kernel_rfl) | (rw [if_neg (by decide +kernel)]; exact ⟨rfl, rfl⟩))
    (fun os started H enc _ => lifted os started H enc)

end Go.Proofs.Ytfphllhcoiblkaa.filesDark
namespace Go.Proofs.Ytfphllhcoiblkaa

theorem filesDark_holds : Rows.FilesDarkSaid := filesDark.over

end Go.Proofs.Ytfphllhcoiblkaa
