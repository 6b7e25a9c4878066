/- Proved: for every room and every calls the law FilesRoom answers true (and the call leaves all older memory as it was). No condition. -/
import Derived.Test.YtfphllhcoiblkaaFilesFew
import Derived.Test.YtfphllhcoiblkaaFilesLawM
import Derived.Deep.RegionHeld
import Derived.Deep.QuietTactic
import Derived.BigQuiet
import Derived.Deep.DeepCutAuto
import Derived.OpenShut
import Derived.ChangeOld
namespace Go.Proofs.Ytfphllhcoiblkaa.filesRoom
open Go.ChangeShapes Go.WideShapes Go.ChangeAt Go.RowKit

theorem below_drew1 {B : Nat} {a w : World} (h : Below B a w) : Below B a w.drew := h.drew

set_option maxRecDepth 100000 in
set_option maxHeartbeats 8000000 in
theorem walk (room : Int) (v : Value) (l : List FOp) (w : World) (hrm : (Lit.int .i64 room).wf = true) (hl : RdP w v l) :
    Calls Try.prog 6 #[.int .i64 room, v] w fun e w' => e = .returned (.bool true) ∧ Below w.heap.size w w' := by
  have HAW := hide (awakeF_any w)
  have HRL := hide hl
  have HRI := hide (i64_of_wf hrm)
  obtain ⟨la, lc, rfl, -⟩ := hl
  clear hrm
  obtain ⟨B, hB⟩ : ∃ B, B = w.heap.size := ⟨_, rfl⟩
  rw [← hB] at HAW ⊢
  have HBW : Hid (B ≤ w.heap.size) := hide (by omega)
  have HBE := hide hB
  clear hB
  have hS : ∀ {W : World}, Below B w W → B ≤ W.heap.size := fun h => Nat.le_trans HBW.out h.size
  go_enter Try.func6, Try.ntmps6
  go_wp2_with fail
  refine HAW.out.mono ?_
  rintro e W1 ⟨rfl, hb1⟩
  have HB1 := hide hb1
  have HFW := hide (fewF_any _ l W1 (HRL.out.below hb1 (by rw [HBE.out]; exact Nat.le_refl _)))
  clear hb1 HAW
  go_wp2_with fail
  refine HFW.out.mono ?_
  rintro e W1' ⟨FB, rfl, hfw, rfl⟩
  have HFP := hide hfw
  have HN := hide (newB_any B room HRI.out W1' (hS HB1.out))
  clear hfw HFW
  go_wp2_with fail
  refine HN.out.mono ?_
  rintro e W2 ⟨p, rfl, hd2, hb2⟩
  have HD2 := hide hd2
  have HB2 := hide (HB1.out.trans hb2)
  clear hd2 hb2 HN
  cases FB with
  | false =>
    go_wp2
    go_ret
    exact ⟨rfl, HB2.out⟩
  | true =>
  have HFEW := hide (HFP.out rfl)
  have hlen := HFEW.out.1
  clear HFP HB1
  by_cases hroom : 0 ≤ room
  case neg =>
    have hr' : decide (room < 0) = true := decide_eq_true (by omega)
    go_wp2
    go_ret
    exact ⟨rfl, HB2.out⟩
  go_wp2
  go_loopw [8] (fun vi wr => ∃ (i : Nat) (d : Dk), vi = .int .i64 (i : Int) ∧ i ≤ l.length ∧ Hid (DskB B wr p d (2 * i) (300 * i)) ∧ Hid (Below B w wr) ∧ Hid (d.room = room ∧ (usedD d : Int) ≤ room)) (fun vi _ => l.length - (intOf vi).toNat)
  case atStart => exact ⟨0, newD room, rfl, Nat.zero_le _, HD2, HB2, hide ⟨rfl, by show ((0 : Nat) : Int) ≤ room; omega⟩⟩
  case round =>
    clear HD2 HB2
    obtain ⟨i, d, rfl, hil, HD, HB, HRM⟩ := hrel
    by_cases hlt : i < l.length
    case neg =>
      go_wp2
      go_ret
      exact ⟨rfl, HB.out⟩
    have HLT := hide hlt
    have hib : i ≤ 150 := by omega
    have HUS := hide (usedB_any wr HD.out)
    obtain ⟨hok, hbn⟩ := HD.out.ok
    have hub := used_bd hok hbn (by omega) (by omega)
    have HOK := hide hok
    obtain ⟨U, hU⟩ : ∃ U, U = (usedD d : Int) := ⟨_, rfl⟩
    have hU0 : 0 ≤ U ∧ U ≤ 1000000000000000 := by omega
    have HU := hide hU
    rw [← hU] at HUS HRM
    clear hok hbn hub hU
    obtain ⟨x, rb, off, ba, bc, ka, kc, hx, hao, ho⟩ := HRL.out.at hlt
    have HSM := hide (HFEW.out.2 i x hx)
    have HOP := hide ho
    have HOW := hide (ho.below HB.out (by rw [HBE.out]; exact Nat.le_refl _))
    subst hao
    have c0 := HOW.out.c0
    have c1 := HOW.out.c1
    have c2 := HOW.out.c2
    have c3 := HOW.out.c3
    have HXI := hide (And.intro ho.i1 ho.i2)
    have HBL : Hid (x.b = [] ∨ ∀ k, (Value.slice ba x.b.length bc).ownBlock = some k → k < B) := hide (by rw [HBE.out]; exact ho.rb.blockLt)
    have HRB := hide HOW.out.rb
    obtain ⟨K, hK⟩ : ∃ K, K = x.kind := ⟨_, rfl⟩
    obtain ⟨nm, hnm⟩ : ∃ nm, nm = x.name := ⟨_, rfl⟩
    obtain ⟨xn, hxn⟩ : ∃ xn, xn = x.n := ⟨_, rfl⟩
    obtain ⟨bl, hbl⟩ : ∃ bl, bl = x.b := ⟨_, rfl⟩
    rw [← hK] at c0
    rw [← hnm] at c1 HXI
    rw [← hxn] at c2 HXI
    rw [← hbl] at c3 HBL HRB HSM
    have HOP0 : Hid (∀ W, Below B w W → W.cell? ⟨rb, off + i * 5, none⟩ = some (.int .i64 K)) := hide (fun W h => by
      have hh := HOP.out.below h (by rw [HBE.out]; exact Nat.le_refl _)
      rw [hK]
      exact hh.c0)
    have HOP2 : Hid (∀ W, Below B w W → W.cell? ⟨rb, off + i * 5 + 1, none⟩ = some (.int .i64 nm) ∧ W.cell? ⟨rb, off + i * 5 + 2, none⟩ = some (.int .i64 xn) ∧ W.cell? ⟨rb, off + i * 5 + 3, none⟩ = some (.slice ba bl.length bc)) := hide (fun W h => by
      have hh := HOP.out.below h (by rw [HBE.out]; exact Nat.le_refl _)
      rw [hnm, hxn, hbl]
      exact ⟨hh.c1, hh.c2, hh.c3⟩)
    have hb3 := HSM.out.1
    clear hlt hx ho hK hnm hxn hbl HOP HOW HSM
    go_wp2_with fail
    refine HUS.out.mono ?_
    rintro e Wu ⟨rfl, rfl⟩
    obtain ⟨wr, rfl⟩ : ∃ wr, wr = Wu := ⟨_, rfl⟩
    by_cases k0 : K = 0
    · subst k0
      obtain ⟨hr1, hr2⟩ := room_append HOK.out nm bl
      have HR1 := hide hr1
      have HR2 := hide hr2
      clear hr1 hr2
      obtain ⟨⟨D2, C⟩, hD2⟩ : ∃ r, r = appendD d nm bl := ⟨_, rfl⟩
      rw [← hD2] at HR1 HR2
      have HC := hide (appendB_rd (B := B) nm HXI.out.1 _ bl wr.drew (HD.out.below (below_drew1 (Below.refl _ _))) (hS (below_drew1 HB.out)) (HRB.out.below (below_drew1 (Below.refl _ _)) (Nat.le_refl _)) HBL.out (by omega) (by omega) (by omega))
      rw [← hD2] at HC
      clear hD2
      have HKP : Hid (∀ W, Below B w W → W.cell? ⟨rb, off + i * 5 + 1, none⟩ = some (.int .i64 nm) ∧ W.cell? ⟨rb, off + i * 5 + 3, none⟩ = some (.slice ba bl.length bc)) := hide (fun W h => ⟨(HOP2.out W h).1, (HOP2.out W h).2.2⟩)
      go_upto_region 12 with fail
      go_region_held (fun W => W.cell? ⟨rb, off + i * 5 + 1, none⟩ = some (.int .i64 nm) ∧ W.cell? ⟨rb, off + i * 5 + 3, none⟩ = some (.slice ba bl.length bc))
        (first | (with_reducible refine HKP.out _ ?_; first | (with_reducible exact HB.out) | (with_reducible exact below_drew1 HB.out) | (with_reducible exact HB2.out)))
        (first | (go_at_call 20; refine HC.out.mono ?_; rintro e W2 ⟨rfl, hd2, hb2⟩; have HD2 := hide hd2; have HB2 := hide ((below_drew1 HB.out).trans hb2); clear hd2 hb2 HC))
      all_goals
        rcases HR2.out with ⟨hc, hu, hle⟩ | ⟨hc, hd, hten⟩
        · subst hc
          rw [← HU.out] at hu hle
          have HUU := hide hu
          have HRM2 : Hid (D2.room = room ∧ (usedD D2 : Int) ≤ room) := hide ⟨HR1.out.trans HRM.out.1, by rw [hu, ← HRM.out.1]; exact hle⟩
          have hlr : U + (bl.length : Int) ≤ room := by rw [← HRM.out.1]; exact hle
          clear hu hle
          go_upto_region 13 with fail
          go_cut [102] (fun v wc => v = .bool false ∧ Hid (∃ q, wc = W2.drewN q))
          case first =>
            have c3 := (HOP2.out _ HB2.out).2.2
            have HUq : Hid (∀ q, Calls Try.prog 17 #[ptr p] (W2.drewN q) fun e w' => e = .returned (.int .i64 (U + (bl.length : Int))) ∧ w' = W2.drewN q) := hide (fun q => by
              have h := usedB_any (W2.drewN q) (HD2.out.below (below_drewN (Below.refl _ _) q))
              rw [HUU.out] at h
              exact h)
            go_quiet ((go_at_call 17; exact Calls.quiet_of_same (HUq.out _)))
            go_wp2_with fail
            go_meet
            exact ⟨rfl, hide ⟨_, rfl⟩⟩
          case rest =>
            obtain ⟨rfl, hw3⟩ := hcut
            obtain ⟨q3, hq3⟩ := hw3.out
            have HD3 : Hid (DskB B wc p D2 (2 * i + 2) (300 * i + bl.length)) := hide (by rw [hq3]; exact HD2.out.below (below_drewN (Below.refl _ _) q3))
            have HB3 : Hid (Below B w wc) := hide (by rw [hq3]; exact below_drewN HB2.out q3)
            clear hw3 hq3
            obtain ⟨W3, hW3⟩ : ∃ W3, W3 = wc := ⟨_, rfl⟩
            rw [← hW3] at HD3 HB3 ⊢
            clear hW3
            have hg1 : decide (U + (bl.length : Int) > room) = false := decide_eq_false (by omega)
            by_cases hz : bl.length = 0
            · have hg2 : decide (U + (bl.length : Int) > U) = false := decide_eq_false (by omega)
              clear hz
              have HUa := hide (usedB_any W3 HD3.out)
              rw [HUU.out] at HUa
              have c0 := HOP0.out _ HB3.out
              go_wp2_with fail
              refine HUa.out.mono ?_
              rintro e W' ⟨rfl, rfl⟩
              go_wp2_with fail
              refine HUa.out.mono ?_
              rintro e W' ⟨rfl, rfl⟩
              go_wp2
              go_roundw
              case rel => exact ⟨i + 1, _, by go_num, by have := HLT.out; omega, hide (HD3.out.mono (by omega) (by omega)), HB3, HRM2⟩
              case measure => have := HLT.out; simp [intOf]; omega
            · have hg2 : decide (U + (bl.length : Int) > U) = true := decide_eq_true (by omega)
              clear hz
              have HUa := hide (usedB_any W3 HD3.out)
              rw [HUU.out] at HUa
              have c0 := HOP0.out _ HB3.out
              go_wp2_with fail
              refine HUa.out.mono ?_
              rintro e W' ⟨rfl, rfl⟩
              go_wp2_with fail
              refine HUa.out.mono ?_
              rintro e W' ⟨rfl, rfl⟩
              go_wp2
              go_roundw
              case rel => exact ⟨i + 1, _, by go_num, by have := HLT.out; omega, hide (HD3.out.mono (by omega) (by omega)), HB3, HRM2⟩
              case measure => have := HLT.out; simp [intOf]; omega
        · subst hd
          have HUU : Hid ((usedD D2 : Int) = U) := hide HU.out.symm
          have HRM2 : Hid (D2.room = room ∧ (usedD D2 : Int) ≤ room) := hide ⟨HRM.out.1, by rw [HUU.out]; exact HRM.out.2⟩
          have hur : U ≤ room := HRM.out.2
          have z0 : (C == 0) = false := by simpa using hc
          have z0' : (C != 0) = true := by simpa using hc
          by_cases h10 : C = 10
          · have hg0 := hten h10
            rw [← HU.out, HRM.out.1] at hg0
            subst h10
            have hg3 : decide (U + (bl.length : Int) ≤ room) = false := decide_eq_false (by omega)
            clear hten hc z0 z0'
            go_upto_region 13 with fail
            go_cut [102] (fun v wc => v = .bool false ∧ Hid (∃ q, wc = W2.drewN q))
            case first =>
              have c3 := (HOP2.out _ HB2.out).2.2
              have HUq : Hid (∀ q, Calls Try.prog 17 #[ptr p] (W2.drewN q) fun e w' => e = .returned (.int .i64 U) ∧ w' = W2.drewN q) := hide (fun q => by
                have h := usedB_any (W2.drewN q) (HD2.out.below (below_drewN (Below.refl _ _) q))
                rw [HUU.out] at h
                exact h)
              go_quiet ((go_at_call 17; exact Calls.quiet_of_same (HUq.out _)))
              go_wp2_with fail
              go_meet
              exact ⟨rfl, hide ⟨_, rfl⟩⟩
            case rest =>
              obtain ⟨rfl, hw3⟩ := hcut
              obtain ⟨q3, hq3⟩ := hw3.out
              have HD3 : Hid (DskB B wc p D2 (2 * i + 2) (300 * i + bl.length)) := hide (by rw [hq3]; exact HD2.out.below (below_drewN (Below.refl _ _) q3))
              have HB3 : Hid (Below B w wc) := hide (by rw [hq3]; exact below_drewN HB2.out q3)
              clear hw3 hq3
              obtain ⟨W3, hW3⟩ : ∃ W3, W3 = wc := ⟨_, rfl⟩
              rw [← hW3] at HD3 HB3 ⊢
              clear hW3
              have hg1 : decide (U > room) = false := decide_eq_false (by omega)
              have HUa := hide (usedB_any W3 HD3.out)
              rw [HUU.out] at HUa
              have c0 := HOP0.out _ HB3.out
              go_wp2_with fail
              refine HUa.out.mono ?_
              rintro e W' ⟨rfl, rfl⟩
              go_wp2_with fail
              refine HUa.out.mono ?_
              rintro e W' ⟨rfl, rfl⟩
              go_wp2
              go_roundw
              case rel => exact ⟨i + 1, _, by go_num, by have := HLT.out; omega, hide (HD3.out.mono (by omega) (by omega)), HB3, HRM2⟩
              case measure => have := HLT.out; simp [intOf]; omega
          · have z10 : (C == 10) = false := by simpa using h10
            clear hten hc h10
            go_upto_region 13 with fail
            go_cut [102] (fun v wc => v = .bool false ∧ Hid (∃ q, wc = W2.drewN q))
            case first =>
              have c3 := (HOP2.out _ HB2.out).2.2
              have HUq : Hid (∀ q, Calls Try.prog 17 #[ptr p] (W2.drewN q) fun e w' => e = .returned (.int .i64 U) ∧ w' = W2.drewN q) := hide (fun q => by
                have h := usedB_any (W2.drewN q) (HD2.out.below (below_drewN (Below.refl _ _) q))
                rw [HUU.out] at h
                exact h)
              go_quiet ((go_at_call 17; exact Calls.quiet_of_same (HUq.out _)))
              go_wp2_with fail
              go_meet
              exact ⟨rfl, hide ⟨_, rfl⟩⟩
            case rest =>
              obtain ⟨rfl, hw3⟩ := hcut
              obtain ⟨q3, hq3⟩ := hw3.out
              have HD3 : Hid (DskB B wc p D2 (2 * i + 2) (300 * i + bl.length)) := hide (by rw [hq3]; exact HD2.out.below (below_drewN (Below.refl _ _) q3))
              have HB3 : Hid (Below B w wc) := hide (by rw [hq3]; exact below_drewN HB2.out q3)
              clear hw3 hq3
              obtain ⟨W3, hW3⟩ : ∃ W3, W3 = wc := ⟨_, rfl⟩
              rw [← hW3] at HD3 HB3 ⊢
              clear hW3
              have hg1 : decide (U > room) = false := decide_eq_false (by omega)
              have HUa := hide (usedB_any W3 HD3.out)
              rw [HUU.out] at HUa
              have c0 := HOP0.out _ HB3.out
              go_wp2_with fail
              refine HUa.out.mono ?_
              rintro e W' ⟨rfl, rfl⟩
              go_wp2_with fail
              refine HUa.out.mono ?_
              rintro e W' ⟨rfl, rfl⟩
              go_wp2
              go_roundw
              case rel => exact ⟨i + 1, _, by go_num, by have := HLT.out; omega, hide (HD3.out.mono (by omega) (by omega)), HB3, HRM2⟩
              case measure => have := HLT.out; simp [intOf]; omega
    by_cases k3 : K = 3
    · subst k3
      obtain ⟨hr1, hr2⟩ := room_rename HOK.out nm xn
      obtain ⟨⟨D2, C⟩, hD2⟩ : ∃ r, r = renameD d nm xn := ⟨_, rfl⟩
      rw [← hD2] at hr1 hr2
      obtain ⟨U2, hU2⟩ : ∃ U2, U2 = (usedD D2 : Int) := ⟨_, rfl⟩
      have HUU : Hid ((usedD D2 : Int) = U2) := hide hU2.symm
      have hle : U2 ≤ U := by rw [hU2, HU.out]; exact Int.ofNat_le.2 hr2
      have hur : U ≤ room := HRM.out.2
      have HRM2 : Hid (D2.room = room ∧ (usedD D2 : Int) ≤ room) := hide ⟨hr1.trans HRM.out.1, by rw [← hU2]; omega⟩
      clear hr1 hr2 hU2
      have HC := hide (renameB_any (B := B) nm xn HXI.out.1 HXI.out.2 wr.drew (HD.out.below (below_drew1 (Below.refl _ _))) (hS (below_drew1 HB.out)) (by omega) (by omega))
      rw [← hD2] at HC
      clear hD2
      have HKP : Hid (∀ W, Below B w W → W.cell? ⟨rb, off + i * 5 + 1, none⟩ = some (.int .i64 nm) ∧ W.cell? ⟨rb, off + i * 5 + 2, none⟩ = some (.int .i64 xn)) := hide (fun W h => ⟨(HOP2.out W h).1, (HOP2.out W h).2.1⟩)
      go_upto_region 16 with fail
      go_region_held (fun W => W.cell? ⟨rb, off + i * 5 + 1, none⟩ = some (.int .i64 nm) ∧ W.cell? ⟨rb, off + i * 5 + 2, none⟩ = some (.int .i64 xn))
        (first | (with_reducible refine HKP.out _ ?_; first | (with_reducible exact HB.out) | (with_reducible exact below_drew1 HB.out) | (with_reducible exact HB2.out)))
        (first | (go_at_call 26; refine HC.out.mono ?_; rintro e W2 ⟨rfl, hd2, hb2⟩; have HD2 := hide hd2; have HB2 := hide ((below_drew1 HB.out).trans hb2); clear hd2 hb2 HC))
      all_goals
        have hg1 : decide (U2 > room) = false := decide_eq_false (by omega)
        have hg2 : decide (U2 > U) = false := decide_eq_false (by omega)
        have HUa := hide (usedB_any W2 HD2.out)
        rw [HUU.out] at HUa
        have c0 := HOP0.out _ HB2.out
        go_wp2_with fail
        refine HUa.out.mono ?_
        rintro e W' ⟨rfl, rfl⟩
        go_wp2_with fail
        refine HUa.out.mono ?_
        rintro e W' ⟨rfl, rfl⟩
        go_wp2
        go_roundw
        case rel => exact ⟨i + 1, _, by go_num, by have := HLT.out; omega, hide (HD2.out.mono (by omega) (by omega)), HB2, HRM2⟩
        case measure => have := HLT.out; simp [intOf]; omega
    by_cases k4 : K = 4
    · subst k4
      obtain ⟨hr1, hr2⟩ := room_remove HOK.out nm
      obtain ⟨⟨D2, C⟩, hD2⟩ : ∃ r, r = removeD d nm := ⟨_, rfl⟩
      rw [← hD2] at hr1 hr2
      obtain ⟨U2, hU2⟩ : ∃ U2, U2 = (usedD D2 : Int) := ⟨_, rfl⟩
      have HUU : Hid ((usedD D2 : Int) = U2) := hide hU2.symm
      have hle : U2 ≤ U := by rw [hU2, HU.out]; exact Int.ofNat_le.2 hr2
      have hur : U ≤ room := HRM.out.2
      have HRM2 : Hid (D2.room = room ∧ (usedD D2 : Int) ≤ room) := hide ⟨hr1.trans HRM.out.1, by rw [← hU2]; omega⟩
      clear hr1 hr2 hU2
      have HC := hide (removeB_any nm HXI.out.1 wr HD.out (hS HB.out) (by omega) (by omega))
      rw [← hD2] at HC
      clear hD2
      go_wp2_with fail
      refine HC.out.mono ?_
      rintro e W2 ⟨rfl, hd2, hb2⟩
      have HD2 := hide hd2
      have HB2 := hide (HB.out.trans hb2)
      clear hd2 hb2 HC
      have hg1 : decide (U2 > room) = false := decide_eq_false (by omega)
      have hg2 : decide (U2 > U) = false := decide_eq_false (by omega)
      have HUa := hide (usedB_any W2 HD2.out)
      rw [HUU.out] at HUa
      have c0 := HOP0.out _ HB2.out
      go_wp2_with fail
      refine HUa.out.mono ?_
      rintro e W' ⟨rfl, rfl⟩
      go_wp2_with fail
      refine HUa.out.mono ?_
      rintro e W' ⟨rfl, rfl⟩
      go_wp2
      go_roundw
      case rel => exact ⟨i + 1, _, by go_num, by have := HLT.out; omega, hide (HD2.out.mono (by omega) (by omega)), HB2, HRM2⟩
      case measure => have := HLT.out; simp [intOf]; omega
    have z0 : (K == 0) = false := by simpa using k0
    have z3 : (K == 3) = false := by simpa using k3
    have z4 : (K == 4) = false := by simpa using k4
    have HUU : Hid ((usedD d : Int) = U) := hide HU.out.symm
    have HRM2 : Hid (d.room = room ∧ (usedD d : Int) ≤ room) := hide ⟨HRM.out.1, by rw [HUU.out]; exact HRM.out.2⟩
    have hur : U ≤ room := HRM.out.2
    have hg1 : decide (U > room) = false := decide_eq_false (by omega)
    clear k0 k3 k4
    have HUa := hide (usedB_any wr HD.out)
    rw [HUU.out] at HUa
    have c0 := HOP0.out _ HB.out
    go_wp2_with fail
    refine HUa.out.mono ?_
    rintro e W' ⟨rfl, rfl⟩
    go_wp2_with fail
    refine HUa.out.mono ?_
    rintro e W' ⟨rfl, rfl⟩
    go_wp2
    go_roundw
    case rel => exact ⟨i + 1, _, by go_num, by have := HLT.out; omega, hide (HD.out.mono (by omega) (by omega)), HB, HRM2⟩
    case measure => have := HLT.out; simp [intOf]; omega

theorem own : ownKnob Try.prog.godebug = none := by kernel_rfl
theorem laidOut : laidOutB Try.prog = true := by kernel_rfl

set_option linter.unusedVariables false in
set_option maxRecDepth 100000 in
theorem lifted (os : Os) (started : os.Started) (H : Type) (enc : TypeId × Value → H) :
    ReturnsInHanded {} Try.checked os 6 .any (Rows.filesRoomSpec.pre6 enc Try.prog Try.f6 Rows.filesRoomRow.domain false) (Rows.filesRoomSpec.post enc Try.prog Try.f6 false true false false) := by
  refine returnsInHanded_of_change (C := Try.checked) own started (by kernel_rfl) Try.func6
    (ChangeSpec.witness6 (enc := enc) (C := Try.checked) false ⟨#[], #[.int .i64 0, .slice none 0 0], []⟩ 8 (by kernel_rfl) (by kernel_rfl) (by kernel_rfl) (by kernel_rfl)) ?_
  intro W base args ds gs before hval0 hW hcnd _
  have hval : ∀ (j : Nat) t v, Try.f6.params[j]? = some t → args[j]? = some v → Value.okWide Try.prog W .any base t v := hval0
  have hW' := hW
  obtain ⟨p, q, hA0, hV, rfl, hfz, hnd⟩ := hW
  have hA : DataW.TrodAll enc Try.prog W 0 (fun _ => true) true Try.f6.params.toList args.toList ds p := hA0
  rw [Try.params6] at hA hval
  obtain ⟨v0, vs0, d0, ds0, p0, q0, hargs, rfl, rfl, h0, r0⟩ := trodAll_cons hA
  obtain ⟨v1, vs1, d1, ds1, p1, q1, rfl, rfl, rfl, h1, r1⟩ := trodAll_cons r0
  obtain ⟨rfl, rfl, rfl⟩ := trodAll_nil r1
  obtain rfl : args = #[v0, v1] := by cases args; simp_all
  obtain ⟨rfl, rfl⟩ := trodVars_none hV
  obtain ⟨a0, rfl, rfl, rfl, w0⟩ := open_int Try.underlying3 (hval 0 3 v0 rfl rfl) h0
  obtain ⟨a1, len1, cap1, rfl⟩ := okWide_slice Try.underlying22 (hval 1 22 v1 rfl rfl)
  have k1 := h1
  have lt1 : ∀ x ∈ p1, x.block < W.heap.size := by obtain ⟨m, hm⟩ := k1; exact DataW.trod_lt m _ _ _ hm
  obtain ⟨l1, w1⟩ : ∃ l, RdP W (.slice a1 len1 cap1) l := by
    obtain ⟨fuel, hf⟩ := h1
    obtain ⟨v, l, hcs, hr⟩ := open_fops hf
    simp [Value.cells] at hcs
    subst hcs
    exact ⟨l, hr⟩
  clear hA0 hval0
  refine (walk a0 _ l1 W w0 w1).mono fun e W' ⟨he, bel⟩ => ?_
  subst he
  exact ⟨_, rfl, _, _, _, [], _, [], hW', trodAll_mk1 (shut_bool Try.underlying4 _), (trodAll_cons_mk (shut_int Try.underlying3 w0) (trodAll_cons_mk (Below.trod laidOut (by kernel_rfl) (of_decide_eq_true (by kernel_rfl)) k1 bel lt1) trodAll_mk0)), rfl, bel.frame _, fun h => by cases h⟩

theorem over : Rows.filesRoomRow.holds Try.pinned (OpenSpec.ofChange Rows.filesRoomSpec) :=
  OpenClaim.holds_of_wide 6 Try.f6 rfl rfl rfl rfl rfl rfl rfl ⟨rfl, rfl, rfl, rfl, rfl⟩ rfl rfl rfl rfl rfl (by kernel_rfl) Try.func6 (by kernel_rfl)
    (of_decide_eq_true (by kernel_rfl)) (by unfold Func.isWrapper; first | (rw [if_pos (by decide +kernel)]; kernel_rfl) | (rw [if_neg (by decide +kernel)]; exact ⟨rfl, rfl⟩))
    (fun os started H enc _ => lifted os started H enc)

end Go.Proofs.Ytfphllhcoiblkaa.filesRoom
namespace Go.Proofs.Ytfphllhcoiblkaa

theorem filesRoom_holds : Rows.FilesRoomSaid := filesRoom.over

end Go.Proofs.Ytfphllhcoiblkaa
