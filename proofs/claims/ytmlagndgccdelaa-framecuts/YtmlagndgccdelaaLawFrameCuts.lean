/- Proved: for all lists of data and every cut the law FrameCuts answers true (and the call leaves all older memory as it was). No condition. -/
import Derived.Test.YtmlagndgccdelaaFrameAwake
import Derived.Test.YtmlagndgccdelaaFrameRows
import Derived.OpenShut
import Derived.ChangeOld
namespace Go.Proofs.Ytmlagndgccdelaa.frameCuts
open Go.ChangeShapes Go.WideShapes Go.ChangeAt Go.RowKit

/-- Where the first k frames end, as cells. -/
def endCells (L : List (List UInt8)) (k : Nat) : List Value := (List.range k).map fun j => Value.int .i64 ((framesOf (L.take (j + 1))).length : Int)

theorem endCells_length (L : List (List UInt8)) (k : Nat) : (endCells L k).length = k := by simp [endCells]

theorem endCells_at (L : List (List UInt8)) (k j : Nat) (h : j < k) : (endCells L k)[j]? = some (.int .i64 ((framesOf (L.take (j + 1))).length : Int)) := by simp [endCells, h]

theorem endCells_snoc (L : List (List UInt8)) (k : Nat) : endCells L (k + 1) = endCells L k ++ [.int .i64 ((framesOf (L.take (k + 1))).length : Int)] := by simp [endCells, List.range_succ]

theorem frames_snoc (L : List (List UInt8)) (k : Nat) (h : k < L.length) : framesOf (L.take (k + 1)) = framesOf (L.take k) ++ frameOf (L.getD k []) := by
  have e : L.take (k + 1) = L.take k ++ [L.getD k []] := by
    rw [List.take_add_one, List.getElem?_eq_getElem h]
    simp [List.getD, h]
  rw [e]
  simp [framesOf]

theorem frames_len (L : List (List UInt8)) (k : Nat) (hk : k ≤ L.length) (h : ∀ j, j < k → (L.getD j []).length ≤ 300) : (framesOf (L.take k)).length ≤ 307 * k := by
  induction k with
  | zero => simp [framesOf]
  | succ k ih =>
    have h1 := ih (by omega) (fun j hj => h j (by omega))
    have h2 := h k (by omega)
    have h3 : (Lib.uvarint (L.getD k []).length).length ≤ 3 := len3 (by omega)
    rw [frames_snoc L k (by omega), List.length_append, frameOf_length]
    omega

theorem info_int : (Try.prog.info? 3).map (fun i => (i.zero, i.size, i.bytes)) = some (some (.int .i64 0), 1, 8) := by kernel_rfl

set_option maxRecDepth 100000 in
set_option maxHeartbeats 4000000 in
theorem core (aa : Option Addr) (capa : Nat) (L : List (List UInt8)) (C : Nat) (w : World) (hr : RdL w (.slice aa L.length capa) L) (hL : (L.length : Int) ≤ 30) (hC : (C : Int) ≤ 9223372036854775807) :
    Calls Try.prog 8 #[.slice aa L.length capa, .int .i64 (C : Int)] w fun e w' => e = .returned (.bool true) ∧ Below w.heap.size w w' := by
  obtain ⟨i0, hi, hz0, hz1, hz2⟩ := info_parts info_int
  have HA := hide (awake_any w)
  have HR := hide hr
  obtain ⟨_, _, hv, _, _, _, haa⟩ := hr
  simp only [Value.slice.injEq] at hv
  obtain ⟨rfl, _, rfl⟩ := hv
  have HAA := hide haa
  clear haa
  go_enter Try.func8, Try.ntmps8
  go_wp2_with fail
  refine HA.out.mono ?_
  rintro e w1 ⟨rfl, hb⟩
  have HB1 := hide hb
  clear hb HA
  have hs1 := HB1.out.size
  go_wp2
  go_loopw [6, 7, 8] (fun vb ve i wr => ∃ k : Nat, k ≤ L.length ∧ i = .int .i64 (k : Int) ∧ Hid (∀ j, j < k → (L.getD j []).length ≤ 300) ∧ Hid (∃ ab cb, vb = .slice ab (framesOf (L.take k)).length cb) ∧ Hid (Own wr w1.heap.size vb (framesOf (L.take k))) ∧ Hid (wr.ownsRow w1.heap.size 3 1 ve k (endCells L k)) ∧ Hid (Below w1.heap.size w1 wr)) (fun _ _ i _ => L.length - (intOf i).toNat)
  case atStart => exact ⟨0, Nat.zero_le _, rfl, fun j hj => by omega, ⟨none, 0, rfl⟩, Own.nil _ _, World.ownsRow_nil _ _ _ _, Below.refl _ _⟩
  case round =>
    obtain ⟨k, hk, rfl, hall, hvb, ho, he, hb⟩ := hrel
    have hsr := hb.out.size
    have HBr := hide (HB1.out.trans (hb.out.mono hs1))
    have hfl := frames_len L k hk hall.out
    by_cases hlt : k < L.length
    · rcases HAA.out with hn | ⟨b1, o1, rfl, hc1⟩
      · rw [hn] at hlt; simp at hlt
      obtain ⟨x, hx, hrx⟩ := hc1 k hlt
      have hx2 : wr.cell? ⟨b1, o1 + k, none⟩ = some x := by
        rw [HBr.out.cell (World.block_lt_of_cell? w ⟨b1, o1 + k, none⟩ hx)]; exact hx
      have hrx2 := hrx.below HBr.out (Nat.le_refl _)
      have HS := hide (frames_snoc L k hlt)
      have HES := hide (endCells_snoc L k)
      clear hc1 hx hrx
      obtain ⟨ax, cx, rfl, _⟩ := id hrx2
      have HRX := hide hrx2
      clear hrx2
      obtain ⟨y, hy⟩ : ∃ y, y = L.getD k [] := ⟨_, rfl⟩
      rw [← hy] at HRX hx2 HS
      have HY := hide hy
      clear hy
      by_cases h300 : (y.length : Int) ≤ 300
      · have C1 : Hid (Calls Try.prog 10 #[.slice ax y.length cx] wr fun e w' => ∃ v', e = .returned (.tuple #[v', .int .i64 0]) ∧ Rd w' v' (frameOf y) ∧ Below wr.heap.size wr w') := by
          refine (encode_any _ y wr HRX.out).mono ?_
          have e : encF y = (frameOf y, 0) := if_pos (by omega)
          rw [e]
          rintro e w' ⟨v', rfl, ho, hb⟩
          exact ⟨v', rfl, ho.rd, hb⟩
        have hF : (frameOf y).length ≤ 307 := by
          have h3 : (Lib.uvarint y.length).length ≤ 3 := len3 (by omega)
          rw [frameOf_length]
          omega
        generalize frameOf y = F at *
        generalize framesOf (L.take k) = G at *
        generalize endCells L k = E at *
        go_wp2_with fail
        refine C1.out.mono ?_
        rintro e w2 ⟨v2, rfl, hr2, hb2⟩
        have HR2 := hide hr2
        have HB2 := hide (hb.out.trans (hb2.mono hsr))
        have HO2 := hide (ho.out.below hb2 (Nat.le_refl _))
        have HE2 : Hid (w2.ownsRow w1.heap.size 3 1 u7 k E) := by
          obtain ⟨h1, h2⟩ := he.out
          refine ⟨h1, ?_⟩
          rcases h2 with h2 | ⟨g, cap, cur, hv, hbg, hg, r⟩
          · exact .inl h2
          · have hlt : g < wr.heap.size := (Array.getElem?_eq_some_iff.1 hg).1
            exact .inr ⟨g, cap, cur, hv, hbg, by rw [hb2.block g hlt]; exact hg, r⟩
        have hs2 := HB2.out.size
        clear hr2 hb2 C1 hx2 HRX
        go_wp2_with (at_builtin; refine wpList_append_rdg _ rfl _ _ rfl w1.heap.size _ G rfl HO2.out _ F rfl HR2.out (by omega) hs2 ?_)
        intro v3 w3 ho3 hg3
        have HO3 := hide ho3
        have HE3 : Hid (w3.ownsRow w1.heap.size 3 1 u7 k E) := World.ownsRow.kept HE2.out hg3 (rows_apart (by decide) HO2.out HE2.out)
        have HB3 := hide (HB2.out.grown hg3 hs2 (fun k hk => (World.ownsRow.lt HO2.out k hk).1))
        have hs3 := HB3.out.size
        obtain ⟨a3, c3, rfl, _⟩ := ho3.rd
        have HLN : Hid (framesOf (L.take (k + 1)) = G ++ F) := HS.out
        clear ho3 hg3 HR2 HO2 HE2
        have HGF : Hid ((G ++ F).length = G.length + F.length) := List.length_append
        generalize G ++ F = M at *
        go_wp2_with (at_builtin; refine wpList_append_own _ rfl _ _ 44 rfl w1.heap.size 3 i0 (.int .i64 0) 1 8 Try.underlying44 hi hz0 hz1 hz2 rfl (by decide) _ _ _ rfl (World.ownsRow.alloc HE3.out _) ⟨w3.heap.size, 0, none⟩ 1 1 [Value.int .i64 (M.length : Int)] rfl rfl ?c1 ?c2 ?c3 ?c4 ?c5 ?_)
        case c1 =>
          intro j u hj
          match j, hj with
          | 0, hj => simp at hj; subst hj; simp [Addr.add]
        case c2 => intro u hu; simp at hu; subst hu; rfl
        case c3 => unfold maxLen; simp; omega
        case c4 => omega
        case c5 => simp; omega
        intro v4 w4 ho4 hg4 _
        have HB4 := hide ((HB3.out.alloc hs3 _).grown hg4 (by simp; omega) (fun k hk => (World.ownsRow.lt HE3.out k hk).1))
        have HO4 : Hid (Own w4 w1.heap.size (.slice a3 M.length c3) M) := World.ownsRow.kept (World.ownsRow.alloc HO3.out _) hg4 (rows_apart (by decide) HE3.out HO3.out)
        have HE4 : Hid (w4.ownsRow w1.heap.size 3 1 v4 (k + 1) (endCells L (k + 1))) := by
          rw [HES.out, HLN.out]
          exact ho4
        clear ho4 hg4 HE3 HO3
        go_wp2
        go_roundw
        case rel =>
          refine ⟨k + 1, by omega, by go_num, fun j hj => ?_, ?_, ?_, HE4, HB4⟩
          · by_cases e : j = k
            · rw [e, ← HY.out]; omega
            · exact hall.out j (by omega)
          · rw [HLN.out]; exact ⟨_, _, rfl⟩
          · rw [HLN.out]; exact HO4
        case measure => simp [intOf]; omega
      · go_wp2
        go_ret
        exact ⟨rfl, HBr.out⟩
    · have ek : k = L.length := by omega
      subst ek
      have eT : L.take L.length = L := List.take_length
      rw [eT] at hvb ho hfl
      have HALL : Hid (∀ x ∈ L, x.length ≤ 1048576) := fun x hx => by
        obtain ⟨i, hi, rfl⟩ := List.getElem_of_mem hx
        have := hall.out i hi
        simp only [List.getD, List.getElem?_eq_getElem hi, Option.getD_some] at this
        omega
      clear hall eT
      obtain ⟨ab, cb, rfl⟩ := hvb.out
      clear hvb
      by_cases hcut : (framesOf L).length < C
      · have hcut' : ((framesOf L).length : Int) < (C : Int) := by omega
        generalize framesOf L = G at *
        go_wp2
        go_ret
        exact ⟨rfl, HBr.out⟩
      · have hcut' : (C : Int) ≤ ((framesOf L).length : Int) := by omega
        have HWC := hide (wholeF_cut L C HALL.out (by omega))
        have HWA := hide (wholes_at L C)
        have HNW : Hid (∀ (j g : Nat), j < L.length → wr.cell? ⟨g, j, none⟩ = (endCells L L.length)[j]? → wr.cell? ⟨g, j, none⟩ = some (.int .i64 ((framesOf (L.take (j + 1))).length : Int))) := fun j g hj h => by
          rw [h, endCells_at L L.length j hj]
        have HF0 : Hid ((framesOf (L.take 0)).length = 0) := rfl
        have HRC : Hid (∀ W, Below wr.heap.size wr W → ∃ v', (Instr.sliceAt 22 (.slice ab (framesOf L).length cb) none (some (.int .i64 (C : Int))) none).run Try.prog W = .ok v' W ∧ Rd W v' ((framesOf L).take C)) := fun W hW => by
          have := run_cut_h W _ _ (ho.out.rd.below hW (Nat.le_refl _)) .i64 (C : Int) (by omega) (by omega)
          rwa [Int.toNat_natCast] at this
        have HWh := hide (fun v W h => whole_any v ((framesOf L).take C) W h (by simp; omega))
        have HAl := hide (fun v W h => all_any v ((framesOf L).take C) W h (by simp; omega))
        have HSM : Hid (∀ (M : List (List UInt8)) va vb w, RdL w va M → RdL w vb M → Calls Try.prog 20 #[va, vb] w fun e w' => e = .returned (.bool true) ∧ Below w.heap.size w w') := by
          intro M va vb w h1 h2
          have := refSame_any va M vb M w h1 h2
          rwa [decide_eq_true rfl] at this
        have HCL : Hid (∀ (W : World) (k : Nat), k ≤ L.length → Below w.heap.size w W → ∃ v', (Instr.sliceAt 31 (.slice aa L.length capa) none (some (.int .i64 (k : Int))) none).run Try.prog W = .ok v' W ∧ RdL W v' (L.take k)) := fun W k hk hW => by
          have := run_cutL_h W _ L (HR.out.below hW (Nat.le_refl _)) .i64 (k : Int) (by omega) (by omega)
          rwa [Int.toNat_natCast] at this
        generalize (framesOf L).take C = D at *
        generalize framesOf L = G at *
        obtain ⟨ae, ce, rfl, hae⟩ : ∃ ae ce, u7 = .slice ae L.length ce ∧ (0 < L.length → ∃ g, ae = some ⟨g, 0, none⟩ ∧ ∀ j, j < L.length → wr.cell? ⟨g, j, none⟩ = some (.int .i64 ((framesOf (L.take (j + 1))).length : Int))) := by
          rcases he.out.2 with ⟨hv, hn⟩ | ⟨g, cap, cur, hv, hbg, hg, r⟩
          · exact ⟨none, 0, by rw [hv, hn], fun h => by omega⟩
          · refine ⟨_, _, hv, fun _ => ⟨g, rfl, fun j hj => ?_⟩⟩
            have h := he.out
            rw [hv] at h
            rw [World.ownsRow.cellAt h j (by omega), endCells_at L L.length j hj]
        have HAE := hide hae
        clear hae he HNW
        go_wp2
        go_loop [11, 12] (fun n at' => ∃ k : Nat, k ≤ L.length ∧ n = .int .i64 (k : Int) ∧ at' = .int .i64 ((framesOf (L.take k)).length : Int) ∧ (framesOf (L.take k)).length ≤ C) (fun n _ => L.length - (intOf n).toNat)
        case atStart => exact ⟨0, Nat.zero_le _, rfl, rfl, by rw [HF0.out]; omega⟩
        case round =>
          obtain ⟨k, hk, rfl, rfl, hat⟩ := hrel
          have hcase : (k < L.length ∧ (framesOf (L.take (k + 1))).length ≤ C) ∨ k = L.length ∨ (k < L.length ∧ C < (framesOf (L.take (k + 1))).length) := by omega
          rcases hcase with ⟨hlt2, hle⟩ | hex
          · obtain ⟨g, rfl, hcells⟩ := HAE.out (by omega)
            have hck := hcells k hlt2
            clear hcells
            generalize (framesOf (L.take k)).length = A at *
            generalize hA2 : (framesOf (L.take (k + 1))).length = A2 at *
            have HA2 := hide hA2
            clear hA2
            go_wp2
            go_round
            case rel => exact ⟨k + 1, by omega, by go_num, by rw [HA2.out], by rw [HA2.out]; exact hle⟩
            case measure => simp [intOf]; omega
          · have HW : Hid (wholeF D = (L.take k, (framesOf (L.take k)).length, if (framesOf (L.take k)).length = C then 0 else 2)) := by
              have h1 := HWC.out
              rw [HWA.out k hk hat (by omega)] at h1
              exact h1
            have hcA : (((framesOf (L.take k)).length : Int) == (C : Int)) = decide ((framesOf (L.take k)).length = C) := by
              rw [Bool.eq_iff_iff, beq_iff_eq, decide_eq_true_iff]
              omega
            have HWh2 : Hid (∀ v W, Rd W v D → Calls Try.prog 18 #[v] W fun e w' => ∃ v', e = .returned (.tuple #[v', .int .i64 ((framesOf (L.take k)).length : Int)]) ∧ RdL w' v' (L.take k) ∧ Below W.heap.size W w') := by
              intro v W h
              have := HWh.out v W h
              rw [HW.out] at this
              exact this
            have hcs : k = L.length ∨ ∃ g, ae = some ⟨g, 0, none⟩ ∧ k < L.length ∧ ∃ A2 : Nat, C < A2 ∧ wr.cell? ⟨g, k, none⟩ = some (.int .i64 (A2 : Int)) := by
              rcases hex with h | ⟨h1, h2⟩
              · exact .inl h
              · obtain ⟨g, hg, hcells⟩ := HAE.out (by omega)
                exact .inr ⟨g, hg, h1, _, h2, hcells k h1⟩
            have HRCr := hide (HRC.out wr (Below.refl _ _))
            by_cases hAC : (framesOf (L.take k)).length = C
            · have HAl2 : Hid (∀ v W, Rd W v D → Calls Try.prog 16 #[v] W fun e w' => ∃ v', e = .returned (.tuple #[v', .int .i64 0]) ∧ RdL w' v' (L.take k) ∧ Below W.heap.size W w') := by
                intro v W h
                have := HAl.out v W h
                have e : allF D = (L.take k, 0) := by
                  unfold allF
                  rw [HW.out, if_pos hAC]
                  rfl
                rw [e] at this
                exact this
              rw [decide_eq_true hAC] at hcA
              clear hAC HW HWC HWA HWh HAl hat HALL hex
              generalize (framesOf (L.take k)).length = A at *
              have HCLk := hide (fun W hW => HCL.out W k hk hW)
              clear HCL
              generalize L.take k = M at *
              rcases hcs with rfl | ⟨g, rfl, hlt2, A2, hA2, hcell⟩
              all_goals
                go_wp2_with (refine wpList_cut _ rfl _ _ _ _ rfl _ HRCr.out ?_)
                intro v5 hr5
                have HR5 := hide hr5
                clear hr5
                go_wp2_with fail
                refine (HWh2.out _ _ HR5.out).mono ?_
                rintro e w6 ⟨v6, rfl, hr6, hb6⟩
                have HR6 := hide hr6
                have HB6 := hide hb6
                have HBw6 := hide (HBr.out.trans (hb6.mono HBr.out.size))
                have HRC6 := hide (HRC.out _ hb6)
                clear hr6 hb6
                go_wp2_with (refine wpList_cut _ rfl _ _ _ _ rfl _ HRC6.out ?_)
                intro v7 hr7
                have HR7 := hide hr7
                clear hr7
                go_wp2_with fail
                refine (HAl2.out _ _ HR7.out).mono ?_
                rintro e w8 ⟨v8, rfl, hr8, hb8⟩
                have HR8 := hide hr8
                have HR68 := hide (HR6.out.below hb8 (Nat.le_refl _))
                have HB8 := hide (HBw6.out.trans (hb8.mono HBw6.out.size))
                have HCL8 := hide (HCLk.out w8 HB8.out)
                clear hr8 hb8 HR6 HR7
                go_wp2_with (refine wpList_cutL _ rfl _ _ _ _ rfl _ HCL8.out ?_)
                intro v9 hr9
                have HR9 := hide hr9
                clear hr9
                go_wp2_with fail
                refine (HSM.out _ _ _ _ HR68.out HR9.out).mono ?_
                rintro e w10 ⟨rfl, hb10⟩
                have HB10 := hide (HB8.out.trans (hb10.mono HB8.out.size))
                have HR810 := hide (HR8.out.below hb10 (Nat.le_refl _))
                have HCL10 := hide (HCLk.out w10 HB10.out)
                clear hb10 HR9 HR8 HR68
                go_wp2_with (refine wpList_cutL _ rfl _ _ _ _ rfl _ HCL10.out ?_)
                intro v11 hr11
                have HR11 := hide hr11
                clear hr11
                go_wp2_with fail
                refine (HSM.out _ _ _ _ HR810.out HR11.out).mono ?_
                rintro e w12 ⟨rfl, hb12⟩
                have HB12 := hide (HB10.out.trans (hb12.mono HB10.out.size))
                clear hb12
                go_wp2
                go_ret
                exact ⟨rfl, HB12.out⟩
            · have HAl2 : Hid (∀ v W, Rd W v D → Calls Try.prog 16 #[v] W fun e w' => ∃ a' c', e = .returned (.tuple #[.slice a' 0 c', .int .i64 2]) ∧ Below W.heap.size W w') := by
                intro v W h
                refine (HAl.out v W h).mono ?_
                have e : allF D = ([], 2) := by
                  unfold allF
                  rw [HW.out, if_neg hAC]
                  rfl
                rw [e]
                rintro e w' ⟨v', rfl, ⟨a', c', rfl, _⟩, hb⟩
                exact ⟨a', c', rfl, hb⟩
              rw [decide_eq_false hAC] at hcA
              clear hAC HW HWC HWA HWh HAl hat HALL hex
              generalize (framesOf (L.take k)).length = A at *
              have HCLk := hide (fun W hW => HCL.out W k hk hW)
              clear HCL
              generalize L.take k = M at *
              rcases hcs with rfl | ⟨g, rfl, hlt2, A2, hA2, hcell⟩
              all_goals
                go_wp2_with (refine wpList_cut _ rfl _ _ _ _ rfl _ HRCr.out ?_)
                intro v5 hr5
                have HR5 := hide hr5
                clear hr5
                go_wp2_with fail
                refine (HWh2.out _ _ HR5.out).mono ?_
                rintro e w6 ⟨v6, rfl, hr6, hb6⟩
                have HR6 := hide hr6
                have HB6 := hide hb6
                have HBw6 := hide (HBr.out.trans (hb6.mono HBr.out.size))
                have HRC6 := hide (HRC.out _ hb6)
                clear hr6 hb6
                go_wp2_with (refine wpList_cut _ rfl _ _ _ _ rfl _ HRC6.out ?_)
                intro v7 hr7
                have HR7 := hide hr7
                clear hr7
                go_wp2_with fail
                refine (HAl2.out _ _ HR7.out).mono ?_
                rintro e w8 ⟨a8, c8, rfl, hb8⟩
                have HR68 := hide (HR6.out.below hb8 (Nat.le_refl _))
                have HB8 := hide (HBw6.out.trans (hb8.mono HBw6.out.size))
                have HCL8 := hide (HCLk.out w8 HB8.out)
                clear hb8 HR6 HR7
                go_wp2_with (refine wpList_cutL _ rfl _ _ _ _ rfl _ HCL8.out ?_)
                intro v9 hr9
                have HR9 := hide hr9
                clear hr9
                go_wp2_with fail
                refine (HSM.out _ _ _ _ HR68.out HR9.out).mono ?_
                rintro e w10 ⟨rfl, hb10⟩
                have HB10 := hide (HB8.out.trans (hb10.mono HB8.out.size))
                clear hb10 HR9 HR68
                go_wp2
                go_ret
                exact ⟨rfl, HB10.out⟩

set_option maxRecDepth 100000 in
set_option maxHeartbeats 2000000 in
theorem walk (v : Value) (L : List (List UInt8)) (C : Int) (w : World) (hr : RdL w v L) (w1 : (Lit.int .i64 C).wf = true) :
    Calls Try.prog 8 #[v, .int .i64 C] w fun e w' => e = .returned (.bool true) ∧ Below w.heap.size w w' := by
  obtain ⟨hp0, hp1⟩ := i64_bd w1
  clear w1
  have HA := hide (awake_any w)
  have HR := hide hr
  obtain ⟨ao, cap, rfl, hlc, hcm, _, _⟩ := hr
  by_cases h1 : (30 : Int) < (L.length : Int)
  · go_enter Try.func8, Try.ntmps8
    go_wp2_with fail
    refine HA.out.mono ?_
    rintro e w1 ⟨rfl, hb⟩
    have HB := hide hb
    clear hb HA HR
    go_wp2
    go_ret
    exact ⟨rfl, HB.out⟩
  · by_cases h2 : C < 0
    · go_enter Try.func8, Try.ntmps8
      go_wp2_with fail
      refine HA.out.mono ?_
      rintro e w1 ⟨rfl, hb⟩
      have HB := hide hb
      clear hb HA HR
      go_wp2
      go_ret
      exact ⟨rfl, HB.out⟩
    · obtain ⟨q, rfl⟩ : ∃ q : Nat, C = (q : Int) := Int.eq_ofNat_of_zero_le (by omega)
      exact core ao cap L q w HR.out (by omega) hp1

theorem own : ownKnob Try.prog.godebug = none := by kernel_rfl
theorem laidOut : laidOutB Try.prog = true := by kernel_rfl

set_option linter.unusedVariables false in
set_option maxRecDepth 100000 in
theorem lifted (os : Os) (started : os.Started) (H : Type) (enc : TypeId × Value → H) :
    ReturnsInHanded {} Try.checked os 8 .any (Rows.frameCutsSpec.pre6 enc Try.prog Try.f8 Rows.frameCutsRow.domain false) (Rows.frameCutsSpec.post enc Try.prog Try.f8 false true false false) := by
  refine returnsInHanded_of_change (C := Try.checked) own started (by kernel_rfl) Try.func8
    (ChangeSpec.witness6 (enc := enc) (C := Try.checked) false ⟨#[], #[.slice none 0 0, .int .i64 0], []⟩ 8 (by kernel_rfl) (by kernel_rfl) (by kernel_rfl) (by kernel_rfl)) ?_
  intro W base args ds gs before hval0 hW hcnd _
  have hval : ∀ (j : Nat) t v, Try.f8.params[j]? = some t → args[j]? = some v → Value.okWide Try.prog W .any base t v := hval0
  have hW' := hW
  obtain ⟨p, q, hA0, hV, rfl, hfz, hnd⟩ := hW
  have hA : DataW.TrodAll enc Try.prog W 0 (fun _ => true) true Try.f8.params.toList args.toList ds p := hA0
  rw [Try.params8] at hA hval
  obtain ⟨v0, vs0, d0, ds0, p0, q0, hargs, rfl, rfl, h0, r0⟩ := trodAll_cons hA
  obtain ⟨v1, vs1, d1, ds1, p1, q1, rfl, rfl, rfl, h1, r1⟩ := trodAll_cons r0
  obtain ⟨rfl, rfl, rfl⟩ := trodAll_nil r1
  obtain rfl : args = #[v0, v1] := by cases args; simp_all
  obtain ⟨rfl, rfl⟩ := trodVars_none hV
  obtain ⟨a0, len0, cap0, rfl⟩ := okWide_slice Try.underlying31 (hval 0 31 v0 rfl rfl)
  have k0 := h0
  have lt0 : ∀ x ∈ p0, x.block < W.heap.size := by obtain ⟨m, hm⟩ := k0; exact DataW.trod_lt m _ _ _ hm
  obtain ⟨l0, w0⟩ : ∃ l, RdL W (.slice a0 len0 cap0) l := by
    obtain ⟨fuel, hf⟩ := h0
    exact open_rows hf
  obtain ⟨a1, rfl, rfl, rfl, w1⟩ := open_int Try.underlying3 (hval 1 3 v1 rfl rfl) h1
  clear hA0 hval0
  refine (walk _ l0 a1 W w0 w1).mono fun e W' ⟨he, bel⟩ => ?_
  subst he
  exact ⟨_, rfl, _, _, _, [], _, [], hW', trodAll_mk1 (shut_bool Try.underlying4 _), (trodAll_cons_mk (Below.trod laidOut (by kernel_rfl) (of_decide_eq_true (by kernel_rfl)) k0 bel lt0) (trodAll_cons_mk (shut_int Try.underlying3 w1) trodAll_mk0)), rfl, bel.frame _, fun h => by cases h⟩

theorem over : Rows.frameCutsRow.holds Try.pinned (OpenSpec.ofChange Rows.frameCutsSpec) :=
  OpenClaim.holds_of_wide 8 Try.f8 rfl rfl rfl rfl rfl rfl rfl ⟨rfl, rfl, rfl, rfl, rfl⟩ rfl rfl rfl rfl rfl (by kernel_rfl) Try.func8 (by kernel_rfl)
    (of_decide_eq_true (by kernel_rfl)) (by unfold Func.isWrapper; first | (rw [if_pos (by decide +kernel)]; kernel_rfl) | (rw [if_neg (by decide +kernel)]; exact ⟨rfl, rfl⟩))
    (fun os started H enc _ => lifted os started H enc)

end Go.Proofs.Ytmlagndgccdelaa.frameCuts
namespace Go.Proofs.Ytmlagndgccdelaa

theorem frameCuts_holds : Rows.FrameCutsSaid := frameCuts.over

end Go.Proofs.Ytmlagndgccdelaa
