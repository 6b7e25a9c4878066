/- Proved: for every room, every calls and every name the law FilesNames answers true (and the call leaves all older memory as it was). No condition. -/
import Derived.Test.YtfphllhcoiblkaaFilesFew
import Derived.Test.YtfphllhcoiblkaaFilesNamesM
import Derived.Deep.RegionHeld
import Derived.Deep.QuietTactic
import Derived.BigQuiet
import Derived.Deep.DeepCutAuto
import Derived.OpenShut
import Derived.ChangeOld
namespace Go.Proofs.Ytfphllhcoiblkaa.filesNames
open Go.ChangeShapes Go.WideShapes Go.ChangeAt Go.RowKit

theorem below_drew1 {B : Nat} {a w : World} (h : Below B a w) : Below B a w.drew := h.drew

set_option maxRecDepth 100000 in
set_option maxHeartbeats 8000000 in
theorem walk (room : Int) (v : Value) (l : List FOp) (name : Int) (w : World) (hrm : (Lit.int .i64 room).wf = true) (hl : RdP w v l) (hnm : (Lit.int .i64 name).wf = true) :
    Calls Try.prog 7 #[.int .i64 room, v, .int .i64 name] w fun e w' => e = .returned (.bool true) ∧ Below w.heap.size w w' := by
  have HAW := hide (awakeF_any w)
  have HRL := hide hl
  have HNI := hide (i64_of_wf hnm)
  have HRI := hide (i64_of_wf hrm)
  obtain ⟨la, lc, rfl, -⟩ := hl
  clear hnm hrm
  obtain ⟨B, hB⟩ : ∃ B, B = w.heap.size := ⟨_, rfl⟩
  rw [← hB] at HAW ⊢
  have HBW : Hid (B ≤ w.heap.size) := hide (by omega)
  have HBE := hide hB
  clear hB
  have hS : ∀ {W : World}, Below B w W → B ≤ W.heap.size := fun h => Nat.le_trans HBW.out h.size
  go_enter Try.func7, Try.ntmps7
  go_wp2_with fail
  refine HAW.out.mono ?_
  rintro e W1 ⟨rfl, hb1⟩
  have HB1 := hide hb1
  have HFW := hide (fewF_any _ l W1 (HRL.out.below hb1 (by rw [HBE.out]; exact Nat.le_refl _)))
  clear hb1 HAW
  go_wp2_with fail
  refine HFW.out.mono ?_
  rintro e W1' ⟨FB, rfl, hfw, rfl⟩
  have HFP := hide hfw
  have HN := hide (newB_any B room HRI.out W1' (hS HB1.out))
  clear hfw HFW
  go_wp2_with fail
  refine HN.out.mono ?_
  rintro e W2 ⟨p, rfl, hd2, hb2⟩
  have HD2 := hide hd2
  have HB2 := hide (HB1.out.trans hb2)
  clear hd2 hb2 HN
  cases FB with
  | false =>
    go_wp2
    go_ret
    exact ⟨rfl, HB2.out⟩
  | true =>
  have HFEW := hide (HFP.out rfl)
  have hlen := HFEW.out.1
  clear HFP HB1
  go_wp2
  go_loopw [10] (fun vi wr => ∃ (i : Nat) (d : Dk), vi = .int .i64 (i : Int) ∧ i ≤ l.length ∧ Hid (DskB B wr p d (2 * i) (300 * i)) ∧ Hid (Below B w wr) ∧ Hid (d.power = -1)) (fun vi _ => l.length - (intOf vi).toNat)
  case atStart => exact ⟨0, newD room, rfl, Nat.zero_le _, HD2, HB2, hide rfl⟩
  case round =>
    clear HD2 HB2
    obtain ⟨i, d, rfl, hil, HD, HB, HPW⟩ := hrel
    by_cases hlt : i < l.length
    case neg =>
      have hi2 : i ≤ 150 := by omega
      obtain ⟨hok, hbn⟩ := HD.out.ok
      have HOK := hide hok
      have hub := used_bd hok hbn (by omega) (by omega)
      have HNM := hide (namesB_any wr HD.out (by omega))
      have HLN : Hid ((dirD d).length ≤ 1000) := hide (by
        have h1 := dirK_len d d.waits.length
        rw [dirK_all] at h1
        have h2 := hbn.names
        omega)
      have hie : i = l.length := by omega
      clear hok hbn hlt hil
      subst hie
      go_wp2_with fail
      refine HNM.out.mono ?_
      rintro e W5 ⟨vn, rfl, ho5, hb5⟩
      obtain ⟨L, hL⟩ : ∃ L, L = dirD d := ⟨_, rfl⟩
      rw [← hL] at ho5 HLN
      have HRN := hide (ho5.rd (fun x hx => by
        obtain ⟨q, hq, rfl⟩ := List.mem_map.1 hx
        rw [hL] at hq
        exact may_i64 (HOK.out.dir.may q hq).1))
      have HD5 := hide (HD.out.below hb5)
      have HB5 := hide (HB.out.trans (hb5.mono (hS HB.out)))
      obtain ⟨na, nc, hvn, -⟩ := HRN.out
      rw [List.length_map] at hvn
      subst hvn
      have hlen2 : L.length ≤ 1000 := HLN.out
      have HLE := hide hL
      have HUB : Hid (∀ j, sumB d.files (L.take j) ≤ 1000000000000000) := hide (fun j => by
        have h1 := sumB_take_le d.files L j
        rw [hL] at h1 ⊢
        have h2 : sumB d.files (dirD d) = usedD d := rfl
        omega)
      clear ho5 hb5 HNM hL hub
      go_wp2
      go_loopw [12, 13, 14] (fun vs vt vj wq => ∃ j : Nat, vj = .int .i64 (j : Int) ∧ j ≤ L.length ∧ vs = .int .i64 (sumB d.files (L.take j) : Nat) ∧ vt = .bool (hasN L name j) ∧ Hid (Below W5.heap.size W5 wq)) (fun _ _ vj _ => L.length - (intOf vj).toNat)
      case atStart => exact ⟨0, rfl, Nat.zero_le _, rfl, rfl, hide (Below.refl _ _)⟩
      case round =>
        obtain ⟨j, rfl, hjl, rfl, rfl, HBQ⟩ := hrel
        have HDQ := hide (HD5.out.below HBQ.out)
        have HBW2 := hide (HB5.out.trans (HBQ.out.mono (hS HB5.out)))
        by_cases hjt : j < L.length
        · obtain ⟨S, hS1⟩ : ∃ S, S = sumB d.files (L.take j) := ⟨_, rfl⟩
          have hSb : S ≤ 1000000000000000 := by rw [hS1]; exact HUB.out j
          obtain ⟨TH, hTH⟩ : ∃ TH, TH = hasN L name j := ⟨_, rfl⟩
          obtain ⟨N0, hN0⟩ : ∃ N0, N0 = L[j].1 := ⟨_, rfl⟩
          have hcellg : ∀ k (hk : k < L.length), ∃ nb noff, na = some ⟨nb, noff, none⟩ ∧ ∀ W, Below W5.heap.size W5 W → W.cell? ⟨nb, noff + k, none⟩ = some (.int .i64 L[k].1) := fun k hk => by
            have h1 := HRN.out
            obtain ⟨a', c', hv', _, _, _, _, h6⟩ := h1
            simp only [Value.slice.injEq] at hv'
            obtain ⟨rfl, _, rfl⟩ := hv'
            rcases h6 with h6 | ⟨nb, noff, rfl, h7⟩
            · have : L = [] := by simpa using h6
              rw [this] at hk
              simp at hk
            · refine ⟨nb, noff, rfl, fun W hW => ?_⟩
              have h8 := h7 k (by simpa using hk)
              refine cell_below ?_ hW (Nat.le_refl _)
              rw [h8]
              simp [List.getD, hk]
          obtain ⟨nb, noff, hna, hcj⟩ := hcellg j hjt
          have HCG : Hid (∀ k, k < j → ∀ W, Below W5.heap.size W5 W → ∃ y, W.cell? ⟨nb, noff + k, none⟩ = some (.int .i64 y) ∧ y < N0) := hide (fun k hk W hW => by
            obtain ⟨nb', noff', hna', hck⟩ := hcellg k (by omega)
            rw [hna] at hna'
            simp only [Option.some.injEq, Addr.mk.injEq, and_true] at hna'
            obtain ⟨rfl, rfl⟩ := hna'
            refine ⟨_, hck W hW, ?_⟩
            rw [hN0]
            have hr : Rising L := by rw [HLE.out]; exact HOK.out.dir.rise
            exact rising_at hr hk hjt)
          subst hna
          have hN0i : I64 N0 := by
            rw [hN0]
            have hm : L[j] ∈ dirD d := by rw [← HLE.out]; exact List.getElem_mem hjt
            exact may_i64 (HOK.out.dir.may _ hm).1
          have hrd : (readD d N0).2 = 0 ∧ sumB d.files (L.take (j + 1)) = S + (readD d N0).1.length := by
            rw [hN0, hS1, sumB_succ d.files hjt]
            have hjt' : j < (dirD d).length := by rw [← HLE.out]; exact hjt
            obtain ⟨h1, h2⟩ := read_there HOK.out HPW.out hjt'
            have e : L[j] = (dirD d)[j] := by simp only [HLE.out]
            rw [e]
            exact ⟨h1, by rw [h2]⟩
          have HRD := hide hrd
          have HHS : Hid (hasN L name (j + 1) = (TH || (N0 == name))) := hide (by rw [hTH, hN0]; exact hasN_succ hjt name)
          have HRE := hide (readB_any N0 hN0i wr HDQ.out (by omega))
          rw [hrd.1] at HRE
          have HCJ := hide hcj
          have cj : wr.cell? ⟨nb, noff + j, none⟩ = some (.int .i64 N0) := by rw [hN0]; exact hcj wr HBQ.out
          have HCN : Hid (∀ W, Below W5.heap.size W5 W → W.cell? ⟨nb, noff + j, none⟩ = some (.int .i64 N0)) := hide (fun W hW => by rw [hN0]; exact hcj W hW)
          rw [← hS1, ← hTH]
          have HJT := hide hjt
          clear hcellg hcj hrd hS1 hTH hN0 hN0i HCJ
          go_wp2_with fail
          refine HRE.out.mono ?_
          rintro e W6 ⟨v6, rfl, ho6, hb6⟩
          obtain ⟨b6, hb6l⟩ : ∃ b6, b6 = (readD d N0).1 := ⟨_, rfl⟩
          rw [← hb6l] at ho6 HRD
          have HB6 : Hid (Below W5.heap.size W5 W6) := hide (HBQ.out.trans (hb6.mono HBQ.out.size))
          obtain ⟨va6, vc6, rfl, -⟩ := ho6.rd
          have hl6 : S + b6.length ≤ 1000000000000000 := by rw [← HRD.out.2]; exact HUB.out _
          clear ho6 hb6 hb6l HRE cj
          have cj := HCN.out _ HB6.out
          go_upto_region 25 with fail
          go_cut [135] (fun v wc => v = .bool false ∧ Hid (∃ q, wc = W6.drewN q))
          case first =>
            by_cases hj0 : j = 0
            · have hz : decide ((j : Int) > 0) = false := decide_eq_false (by omega)
              have hz2 : decide (0 < j) = false := decide_eq_false (by omega)
              clear hj0
              go_quiet (fail)
              go_wp2_with fail
              go_meet
              exact ⟨rfl, hide ⟨_, rfl⟩⟩
            · obtain ⟨y, hy, hyl⟩ := HCG.out (j - 1) (by omega) W6 HB6.out
              have hz : decide ((j : Int) > 0) = true := decide_eq_true (by omega)
              have hjp : 0 < j := by omega
              obtain ⟨jm, hjm⟩ : ∃ jm, jm = j - 1 := ⟨_, rfl⟩
              rw [← hjm] at hy
              have hji : (j : Int) - 1 = (jm : Int) := by omega
              have hjml : jm < L.length := by have := HJT.out; omega
              have hge : decide (y ≥ N0) = false := decide_eq_false (by omega)
              have hge2 : decide (N0 ≤ y) = false := decide_eq_false (by omega)
              clear hj0 hyl hjm
              go_quiet (fail)
              go_wp2_with fail
              go_meet
              exact ⟨rfl, hide ⟨_, rfl⟩⟩
          case rest =>
            obtain ⟨rfl, hw7⟩ := hcut
            obtain ⟨q7, hq7⟩ := hw7.out
            have HB7 : Hid (Below W5.heap.size W5 wc) := hide (by rw [hq7]; exact below_drewN HB6.out q7)
            have c7 := HCN.out _ HB7.out
            clear hw7 hq7 cj
            cases TH with
            | true =>
              go_wp2
              go_roundw
              case rel => exact ⟨j + 1, by go_num, by have := HJT.out; omega, by rw [HRD.out.2]; go_num, by rw [HHS.out]; rfl, HB7⟩
              case measure => have := HJT.out; simp [intOf]; omega
            | false =>
              obtain ⟨EQ, hEQ⟩ : ∃ EQ, EQ = (N0 == name) := ⟨_, rfl⟩
              have HEQ := hide hEQ
              clear hEQ
              go_wp2
              go_roundw
              case rel => exact ⟨j + 1, by go_num, by have := HJT.out; omega, by rw [HRD.out.2]; go_num, by rw [HHS.out]; rfl, HB7⟩
              case measure => have := HJT.out; simp [intOf]; omega
        · have hj2 : j = L.length := by omega
          have HRE := hide (readB_any name HNI.out wr HDQ.out (by omega))
          have HCS := hide (read_any_name HPW.out name)
          rw [← HLE.out] at HCS
          obtain ⟨C, hC⟩ : ∃ C, C = (readD d name).2 := ⟨_, rfl⟩
          rw [← hC] at HRE HCS
          have HUE : Hid ((usedD d : Int) = (sumB d.files (L.take j) : Nat)) := hide (by rw [hj2, List.take_length, HLE.out]; rfl)
          obtain ⟨S, hS1⟩ : ∃ S, S = sumB d.files (L.take j) := ⟨_, rfl⟩
          rw [← hS1] at HUE
          rw [← hS1]
          obtain ⟨TH, hTH⟩ : ∃ TH, TH = hasN L name j := ⟨_, rfl⟩
          rw [← hj2, ← hTH] at HCS
          rw [← hTH]
          clear hC hS1 hTH hj2
          go_wp2_with fail
          refine HRE.out.mono ?_
          rintro e W8 ⟨v8, rfl, ho8, hb8⟩
          have HUS := hide (usedB_any W8 (HDQ.out.below hb8))
          rw [HUE.out] at HUS
          have HB8 := hide (HBW2.out.trans (hb8.mono (hS HBW2.out)))
          clear ho8 hb8 HRE
          go_wp2_with fail
          refine HUS.out.mono ?_
          rintro e W9 ⟨rfl, rfl⟩
          rcases HCS.out with ⟨hc, ht⟩ | ⟨hc, ht⟩
          · subst hc ht
            go_wp2
            go_ret
            exact ⟨rfl, HB8.out⟩
          · subst hc ht
            go_wp2
            go_ret
            exact ⟨rfl, HB8.out⟩
    have HLT := hide hlt
    have hib : i ≤ 150 := by omega
    obtain ⟨x, rb, off, ba, bc, ka, kc, hx, hao, ho⟩ := HRL.out.at hlt
    have HSM := hide (HFEW.out.2 i x hx)
    have HOP := hide ho
    have HOW := hide (ho.below HB.out (by rw [HBE.out]; exact Nat.le_refl _))
    subst hao
    have c0 := HOW.out.c0
    have c1 := HOW.out.c1
    have c2 := HOW.out.c2
    have c3 := HOW.out.c3
    have c4 := HOW.out.c4
    have HBK : Hid (x.keep = [] ∨ ∀ k, (Value.slice ka x.keep.length kc).ownBlock = some k → k < B) := hide (by rw [HBE.out]; exact ho.rk.blockLtI)
    have HRK := hide HOW.out.rk
    have HXI := hide (And.intro ho.i1 ho.i2)
    have HBL : Hid (x.b = [] ∨ ∀ k, (Value.slice ba x.b.length bc).ownBlock = some k → k < B) := hide (by rw [HBE.out]; exact ho.rb.blockLt)
    have HRB := hide HOW.out.rb
    obtain ⟨K, hK⟩ : ∃ K, K = x.kind := ⟨_, rfl⟩
    obtain ⟨nm, hnm⟩ : ∃ nm, nm = x.name := ⟨_, rfl⟩
    obtain ⟨xn, hxn⟩ : ∃ xn, xn = x.n := ⟨_, rfl⟩
    obtain ⟨bl, hbl⟩ : ∃ bl, bl = x.b := ⟨_, rfl⟩
    rw [← hK] at c0
    rw [← hnm] at c1 HXI
    rw [← hxn] at c2 HXI
    rw [← hbl] at c3 HBL HRB HSM
    obtain ⟨kl, hkl⟩ : ∃ kl, kl = x.keep := ⟨_, rfl⟩
    rw [← hkl] at c4 HBK HRK HSM
    have HOP2 : Hid (∀ W, Below B w W → W.cell? ⟨rb, off + i * 5 + 1, none⟩ = some (.int .i64 nm) ∧ W.cell? ⟨rb, off + i * 5 + 2, none⟩ = some (.int .i64 xn) ∧ W.cell? ⟨rb, off + i * 5 + 3, none⟩ = some (.slice ba bl.length bc) ∧ W.cell? ⟨rb, off + i * 5 + 4, none⟩ = some (.slice ka kl.length kc)) := hide (fun W h => by
      have hh := HOP.out.below h (by rw [HBE.out]; exact Nat.le_refl _)
      rw [hnm, hxn, hbl, hkl]
      exact ⟨hh.c1, hh.c2, hh.c3, hh.c4⟩)
    have hb3 := HSM.out.1
    have hb4 := HSM.out.2
    clear hlt hx ho hK hnm hxn hbl hkl HOP HOW HSM
    by_cases k0 : K = 0
    · subst k0
      have HC := hide (appendB_rd (B := B) nm HXI.out.1 _ bl wr.drew (HD.out.below (below_drew1 (Below.refl _ _))) (hS (below_drew1 HB.out)) (HRB.out.below (below_drew1 (Below.refl _ _)) (Nat.le_refl _)) HBL.out (by omega) (by omega) (by omega))
      have HKP : Hid (∀ W, Below B w W → W.cell? ⟨rb, off + i * 5 + 1, none⟩ = some (.int .i64 nm) ∧ W.cell? ⟨rb, off + i * 5 + 3, none⟩ = some (.slice ba bl.length bc)) := hide (fun W h => ⟨(HOP2.out W h).1, (HOP2.out W h).2.2.1⟩)
      have HP2 := hide (lit_append HPW.out nm bl)
      clear HOP2
      go_upto_region 11 with fail
      go_region_held (fun W => W.cell? ⟨rb, off + i * 5 + 1, none⟩ = some (.int .i64 nm) ∧ W.cell? ⟨rb, off + i * 5 + 3, none⟩ = some (.slice ba bl.length bc))
        (first | (with_reducible refine HKP.out _ ?_; first | (with_reducible exact HB.out) | (with_reducible exact below_drew1 HB.out) | (with_reducible exact HB2.out)))
        (first | (go_at_call 20; refine HC.out.mono ?_; rintro e W2 ⟨rfl, hd2, hb2⟩; have HD2 := hide hd2; have HB2 := hide ((below_drew1 HB.out).trans hb2); clear hd2 hb2 HC))
      all_goals
        go_wp2
        go_roundw
        case rel => exact ⟨i + 1, _, by go_num, by have := HLT.out; omega, hide (HD2.out.mono (by omega) (by omega)), HB2, HP2⟩
        case measure => have := HLT.out; simp [intOf]; omega
    by_cases k3 : K = 3
    · subst k3
      have HC := hide (renameB_any (B := B) nm xn HXI.out.1 HXI.out.2 wr.drew (HD.out.below (below_drew1 (Below.refl _ _))) (hS (below_drew1 HB.out)) (by omega) (by omega))
      have HKP : Hid (∀ W, Below B w W → W.cell? ⟨rb, off + i * 5 + 1, none⟩ = some (.int .i64 nm) ∧ W.cell? ⟨rb, off + i * 5 + 2, none⟩ = some (.int .i64 xn)) := hide (fun W h => ⟨(HOP2.out W h).1, (HOP2.out W h).2.1⟩)
      have HP2 := hide (lit_rename HPW.out nm xn)
      clear HOP2
      go_upto_region 13 with fail
      go_region_held (fun W => W.cell? ⟨rb, off + i * 5 + 1, none⟩ = some (.int .i64 nm) ∧ W.cell? ⟨rb, off + i * 5 + 2, none⟩ = some (.int .i64 xn))
        (first | (with_reducible refine HKP.out _ ?_; first | (with_reducible exact HB.out) | (with_reducible exact below_drew1 HB.out) | (with_reducible exact HB2.out)))
        (first | (go_at_call 26; refine HC.out.mono ?_; rintro e W2 ⟨rfl, hd2, hb2⟩; have HD2 := hide hd2; have HB2 := hide ((below_drew1 HB.out).trans hb2); clear hd2 hb2 HC))
      all_goals
        go_wp2
        go_roundw
        case rel => exact ⟨i + 1, _, by go_num, by have := HLT.out; omega, hide (HD2.out.mono (by omega) (by omega)), HB2, HP2⟩
        case measure => have := HLT.out; simp [intOf]; omega
    by_cases k4 : K = 4
    · subst k4
      have HC := hide (removeB_any nm HXI.out.1 wr HD.out (hS HB.out) (by omega) (by omega))
      have HP2 := hide (lit_remove HPW.out nm)
      go_wp2_with fail
      refine HC.out.mono ?_
      rintro e W2 ⟨rfl, hd2, hb2⟩
      have HD2 := hide hd2
      have HB2 := hide (HB.out.trans hb2)
      clear hd2 hb2 HC
      go_wp2
      go_roundw
      case rel => exact ⟨i + 1, _, by go_num, by have := HLT.out; omega, hide (HD2.out.mono (by omega) (by omega)), HB2, HP2⟩
      case measure => have := HLT.out; simp [intOf]; omega
    by_cases k7 : K = 7
    · subst k7
      have HC := hide (crashB_rd (B := B) xn _ kl wr.drew (HD.out.below (below_drew1 (Below.refl _ _))) (hS (below_drew1 HB.out)) (by omega) (by omega) (HRK.out.below (below_drew1 (Below.refl _ _)) (Nat.le_refl _)) HBK.out (by omega))
      have HKP : Hid (∀ W, Below B w W → W.cell? ⟨rb, off + i * 5 + 2, none⟩ = some (.int .i64 xn) ∧ W.cell? ⟨rb, off + i * 5 + 4, none⟩ = some (.slice ka kl.length kc)) := hide (fun W h => ⟨(HOP2.out W h).2.1, (HOP2.out W h).2.2.2⟩)
      have HP2 := hide (show (crashD d xn kl).power = -1 from rfl)
      clear HOP2
      go_upto_region 17 with fail
      go_region_held (fun W => W.cell? ⟨rb, off + i * 5 + 2, none⟩ = some (.int .i64 xn) ∧ W.cell? ⟨rb, off + i * 5 + 4, none⟩ = some (.slice ka kl.length kc))
        (first | (with_reducible refine HKP.out _ ?_; first | (with_reducible exact HB.out) | (with_reducible exact below_drew1 HB.out) | (with_reducible exact HB2.out)))
        (first | (go_at_call 24; refine HC.out.mono ?_; rintro e W2 ⟨rfl, hd2, hb2⟩; have HD2 := hide hd2; have HB2 := hide ((below_drew1 HB.out).trans hb2); clear hd2 hb2 HC))
      all_goals
        go_wp2
        go_roundw
        case rel => exact ⟨i + 1, _, by go_num, by have := HLT.out; omega, hide (HD2.out.mono (by omega) (by omega)), HB2, HP2⟩
        case measure => have := HLT.out; simp [intOf]; omega
    have z0 : (K == 0) = false := by simpa using k0
    have z3 : (K == 3) = false := by simpa using k3
    have z4 : (K == 4) = false := by simpa using k4
    have z7 : (K == 7) = false := by simpa using k7
    clear k0 k3 k4 k7
    go_wp2
    go_roundw
    case rel => exact ⟨i + 1, _, by go_num, by have := HLT.out; omega, hide (HD.out.mono (by omega) (by omega)), HB, HPW⟩
    case measure => have := HLT.out; simp [intOf]; omega

theorem own : ownKnob Try.prog.godebug = none := by kernel_rfl
theorem laidOut : laidOutB Try.prog = true := by kernel_rfl

set_option linter.unusedVariables false in
set_option maxRecDepth 100000 in
theorem lifted (os : Os) (started : os.Started) (H : Type) (enc : TypeId × Value → H) :
    ReturnsInHanded {} Try.checked os 7 .any (Rows.filesNamesSpec.pre6 enc Try.prog Try.f7 Rows.filesNamesRow.domain false) (Rows.filesNamesSpec.post enc Try.prog Try.f7 false true false false) := by
  refine returnsInHanded_of_change (C := Try.checked) own started (by kernel_rfl) Try.func7
    (ChangeSpec.witness6 (enc := enc) (C := Try.checked) false ⟨#[], #[.int .i64 0, .slice none 0 0, .int .i64 0], []⟩ 8 (by kernel_rfl) (by kernel_rfl) (by kernel_rfl) (by kernel_rfl)) ?_
  intro W base args ds gs before hval0 hW hcnd _
  have hval : ∀ (j : Nat) t v, Try.f7.params[j]? = some t → args[j]? = some v → Value.okWide Try.prog W .any base t v := hval0
  have hW' := hW
  obtain ⟨p, q, hA0, hV, rfl, hfz, hnd⟩ := hW
  have hA : DataW.TrodAll enc Try.prog W 0 (fun _ => true) true Try.f7.params.toList args.toList ds p := hA0
  rw [Try.params7] at hA hval
  obtain ⟨v0, vs0, d0, ds0, p0, q0, hargs, rfl, rfl, h0, r0⟩ := trodAll_cons hA
  obtain ⟨v1, vs1, d1, ds1, p1, q1, rfl, rfl, rfl, h1, r1⟩ := trodAll_cons r0
  obtain ⟨v2, vs2, d2, ds2, p2, q2, rfl, rfl, rfl, h2, r2⟩ := trodAll_cons r1
  obtain ⟨rfl, rfl, rfl⟩ := trodAll_nil r2
  obtain rfl : args = #[v0, v1, v2] := by cases args; simp_all
  obtain ⟨rfl, rfl⟩ := trodVars_none hV
  obtain ⟨a0, rfl, rfl, rfl, w0⟩ := open_int Try.underlying3 (hval 0 3 v0 rfl rfl) h0
  obtain ⟨a1, len1, cap1, rfl⟩ := okWide_slice Try.underlying22 (hval 1 22 v1 rfl rfl)
  have k1 := h1
  have lt1 : ∀ x ∈ p1, x.block < W.heap.size := by obtain ⟨m, hm⟩ := k1; exact DataW.trod_lt m _ _ _ hm
  obtain ⟨l1, w1⟩ : ∃ l, RdP W (.slice a1 len1 cap1) l := by
    obtain ⟨fuel, hf⟩ := h1
    obtain ⟨v, l, hcs, hr⟩ := open_fops hf
    simp [Value.cells] at hcs
    subst hcs
    exact ⟨l, hr⟩
  obtain ⟨a2, rfl, rfl, rfl, w2⟩ := open_int Try.underlying3 (hval 2 3 v2 rfl rfl) h2
  clear hA0 hval0
  refine (walk a0 _ l1 a2 W w0 w1 w2).mono fun e W' ⟨he, bel⟩ => ?_
  subst he
  exact ⟨_, rfl, _, _, _, [], _, [], hW', trodAll_mk1 (shut_bool Try.underlying4 _), (trodAll_cons_mk (shut_int Try.underlying3 w0) (trodAll_cons_mk (Below.trod laidOut (by kernel_rfl) (of_decide_eq_true (by kernel_rfl)) k1 bel lt1) (trodAll_cons_mk (shut_int Try.underlying3 w2) trodAll_mk0))), rfl, bel.frame _, fun h => by cases h⟩

theorem over : Rows.filesNamesRow.holds Try.pinned (OpenSpec.ofChange Rows.filesNamesSpec) :=
  OpenClaim.holds_of_wide 7 Try.f7 rfl rfl rfl rfl rfl rfl rfl ⟨rfl, rfl, rfl, rfl, rfl⟩ rfl rfl rfl rfl rfl (by kernel_rfl) Try.func7 (by kernel_rfl)
    (of_decide_eq_true (by kernel_rfl)) (by unfold Func.isWrapper; first | (rw [if_pos (by decide +kernel)]; kernel_rfl) | (rw [if_neg (by decide +kernel)]; exact ⟨rfl, rfl⟩))
    (fun os started H enc _ => lifted os started H enc)

end Go.Proofs.Ytfphllhcoiblkaa.filesNames
namespace Go.Proofs.Ytfphllhcoiblkaa

theorem filesNames_holds : Rows.FilesNamesSaid := filesNames.over

end Go.Proofs.Ytfphllhcoiblkaa
