/- The law CrcLinear where the others are as many, or more. -/
import Derived.Test.YthgcgpmdllcdhaaCrcLinearP
import Derived.RegionTactic
import Derived.BigRegion
import Derived.Deep.RegionHeld
import Derived.Deep.DeepCutAuto
namespace Go.Proofs.Ythgcgpmdllcdhaa.crcLinear
open Go.RowKit

set_option maxRecDepth 100000 in
set_option maxHeartbeats 2000000 in
theorem more (aa ab : Option Addr) (capa capb : Nat) (a b : List UInt8) (w : World) (hra : Rd w (.slice aa a.length capa) a) (hrb : Rd w (.slice ab b.length capb) b) (hla : (a.length : Int) ≤ 1000) (hlb : (b.length : Int) ≤ 1000) (hlt : ¬ (b.length : Int) < (a.length : Int)) :
    Calls Try.prog 7 #[.slice aa a.length capa, .slice ab b.length capb] w fun e w' => e = .returned (.bool true) ∧ Below w.heap.size w w' := by
  obtain ⟨i0, hi, hz0, hz1, hz2⟩ := info_parts info8
  have HA := hide (awake_any w)
  have HRA := hide hra
  have HRB := hide hrb
  obtain ⟨aa', capa', hva, hlca, hcma, hna, haa⟩ := hra
  obtain ⟨ab', capb', hvb, hlcb, hcmb, hnb, hab⟩ := hrb
  simp only [Value.slice.injEq, true_and] at hva hvb
  obtain ⟨rfl, rfl⟩ := hva
  obtain ⟨rfl, rfl⟩ := hvb
  have HAA := hide haa
  have HAB := hide hab
  clear haa hab hna hnb
  go_enter Try.func7, Try.ntmps7
  go_wp2_with fail
  refine HA.out.mono ?_
  rintro e w1 ⟨rfl, hb⟩
  have HB1 := hide hb
  clear hb HA
  go_wp2_with (at_make; refine wpList_make_full _ rfl _ _ 23 rfl w1.heap.size 5 i0 (.int .u8 0) 1 Try.underlying23 hi hz0 hz1 _ _ _ _ a.length rfl rfl rfl rfl (by rw [hz2]; omega) (by unfold maxLen; omega) (Nat.le_refl _) ?_)
  intro w2 ho2 hg2
  have hF : (both (a.take a.length) (b.take a.length)).length = a.length := by simp [both]; omega
  have HB2 := hide ((Below.refl w1.heap.size w1).grown hg2 (Nat.le_refl _) (fun k hk => by cases hk))
  have HO2 : Hid (w2.ownsRow w1.heap.size 5 1 (.slice (some ⟨w1.heap.size, 0, none⟩) a.length a.length) a.length (Lib.byteCells (rowAt (both (a.take a.length) (b.take a.length)) 0))) := by
    have e : (madeCells #[Value.int .u8 0] a.length).toList = Lib.byteCells (rowAt (both (a.take a.length) (b.take a.length)) 0) := by
      rw [toList_madeCells_one, rowAt_zero, hF]
    rw [← e]
    exact ho2
  have HF := hide hF
  clear ho2 hg2 hF
  go_wp2
  go_loopw [8] (fun i wr => ∃ k : Nat, k ≤ a.length ∧ i = .int .i64 (k : Int) ∧ Hid (wr.ownsRow w1.heap.size 5 1 (.slice (some ⟨w1.heap.size, 0, none⟩) a.length a.length) a.length (Lib.byteCells (rowAt (both (a.take a.length) (b.take a.length)) k))) ∧ Hid (Below w1.heap.size w1 wr)) (fun i _ => a.length - (intOf i).toNat)
  case atStart => exact ⟨0, Nat.zero_le _, rfl, HO2, HB2⟩
  case round =>
    obtain ⟨k, hk, rfl, ho, hb⟩ := hrel
    have HBr := hide (HB1.out.trans (hb.out.mono HB1.out.size))
    by_cases hlk : k < a.length
    · rcases HAA.out with e | ⟨ba, offa, rfl, _⟩
      · have h0 : a.length = 0 := by rw [e]; rfl
        omega
      rcases HAB.out with e | ⟨bb, offb, rfl, _⟩
      · have h0 : b.length = 0 := by rw [e]; rfl
        omega
      have ca := (HRA.out.below HBr.out (Nat.le_refl _)).at k (by omega)
      have cb := (HRB.out.below HBr.out (Nat.le_refl _)).at k (by omega)
      have hcell : wr.cell? ⟨w1.heap.size, k, none⟩ = some (.int .u8 ((rowAt (both (a.take a.length) (b.take a.length)) k).getD k 0).toNat) := by
        rw [World.ownsRow.cellAt ho.out k (by omega), byteCells_get _ _ (by rw [rowAt_length _ k (by have := HF.out; omega)]; have := HF.out; omega)]
      have hfr : wr.frozen? ⟨w1.heap.size, k, none⟩ = false := World.ownsRow.frozenAt ho.out k
      have HX : Hid (bits .xor .u8 ((a.getD k 0).toNat : Int) ((b.getD k 0).toNat : Int) = (((both (a.take a.length) (b.take a.length)).getD k 0).toNat : Int)) := by
        rw [both_get _ _ k (by simp; omega) (by simp; omega), UInt8.toNat_xor, take_getD a k _ hlk, take_getD b k _ hlk, xor_u8 _ _ (UInt8.toNat_lt _) (UInt8.toNat_lt _)]
        exact rfl
      have HS := hide (World.ownsRow.stored ho.out k (.int .u8 (((both (a.take a.length) (b.take a.length)).getD k 0).toNat : Int)))
      generalize (a.getD k 0).toNat = ya at *
      generalize (b.getD k 0).toNat = yb at *
      generalize ((rowAt (both (a.take a.length) (b.take a.length)) k).getD k 0).toNat = yo at *
      go_wp2
      go_region
      all_goals go_wp2
      go_roundw
      case rel =>
        have h2 := HS.out
        rw [rowAt_set _ k (by have := HF.out; omega)] at h2
        rw [HX.out]
        exact ⟨k + 1, by omega, by go_num, World.ownsRow.drew h2.1, (hb.out.setCell (Nat.le_refl _) _).drew⟩
      case measure => simp [intOf]; omega
    · have hkN : k = a.length := by omega
      have HRb : Hid (Rd wr (.slice (some ⟨w1.heap.size, 0, none⟩) a.length a.length) (both (a.take a.length) (b.take a.length))) := by
        have h := ho.out
        rw [hkN] at h
        have e : rowAt (both (a.take a.length) (b.take a.length)) a.length = both (a.take a.length) (b.take a.length) := by
          have h2 := rowAt_full (both (a.take a.length) (b.take a.length))
          rwa [HF.out] at h2
        rw [e] at h
        exact (Own.mk' h HF.out.symm rfl).rd
      clear hkN ho
      have C1 : Hid (∀ W, Below wr.heap.size wr W → Calls Try.prog 11 #[.slice (some ⟨w1.heap.size, 0, none⟩) a.length a.length] W fun e w' => e = .returned (.int .u32 (crcMore 0 (both (a.take a.length) (b.take a.length)) : Nat)) ∧ Below W.heap.size W w' ∧ Below wr.heap.size wr w') := fun W hW =>
        (sum_any _ _ W (HRb.out.below hW (Nat.le_refl _))).mono (fun e w' h => ⟨h.1, h.2, hW.trans (h.2.mono hW.size)⟩)
      have C2 : Hid (∀ W, Below wr.heap.size wr W → Calls Try.prog 11 #[.slice aa a.length capa] W fun e w' => e = .returned (.int .u32 (crcMore 0 (a.take a.length) : Nat)) ∧ Below W.heap.size W w' ∧ Below wr.heap.size wr w') := fun W hW =>
        (sum_any _ _ W (((HRA.out.front a.length (by omega)).below HBr.out (Nat.le_refl _)).below hW (Nat.le_refl _))).mono (fun e w' h => ⟨h.1, h.2, hW.trans (h.2.mono hW.size)⟩)
      have C3 : Hid (∀ W, Below wr.heap.size wr W → Calls Try.prog 11 #[.slice ab a.length capb] W fun e w' => e = .returned (.int .u32 (crcMore 0 (b.take a.length) : Nat)) ∧ Below W.heap.size W w' ∧ Below wr.heap.size wr w') := fun W hW =>
        (sum_any _ _ W (((HRB.out.front a.length (by omega)).below HBr.out (Nat.le_refl _)).below hW (Nat.le_refl _))).mono (fun e w' h => ⟨h.1, h.2, hW.trans (h.2.mono hW.size)⟩)
      have C4 : Hid (∀ (v : Value) W, Below wr.heap.size wr W → Rd W v (List.replicate a.length 0) → Calls Try.prog 11 #[v] W fun e w' => e = .returned (.int .u32 (crcMore 0 (List.replicate a.length 0) : Nat)) ∧ Below W.heap.size W w' ∧ Below wr.heap.size wr w') := fun v W hW hR =>
        (sum_any _ _ W hR).mono (fun e w' h => ⟨h.1, h.2, hW.trans (h.2.mono hW.size)⟩)
      have hp := linear_plain (a.take a.length) (b.take a.length) (by simp; omega)
      have hlen : (a.take a.length).length = a.length := by simp
      rw [hlen] at hp
      have l2 := crcMore_lt (a.take a.length) (by decide : 0 < 4294967296)
      have l3 := crcMore_lt (b.take a.length) (by decide : 0 < 4294967296)
      have l4 := crcMore_lt (List.replicate a.length 0) (by decide : 0 < 4294967296)
      have hmk := fun w => run_make_bytes w a.length (by omega)
      have HM : Hid (a.length ≤ maxLen) := by unfold maxLen; show _ ≤ _; omega
      generalize crcMore 0 (both (a.take a.length) (b.take a.length)) = X1 at *
      generalize crcMore 0 (a.take a.length) = X2 at *
      generalize crcMore 0 (b.take a.length) = X3 at *
      generalize crcMore 0 (List.replicate a.length 0) = X4 at *
      have l23 : X2 ^^^ X3 < 4294967296 := by
        have := Nat.xor_lt_two_pow (n := 32) (by omega : X2 < 2 ^ 32) (by omega : X3 < 2 ^ 32)
        omega
      have hx1 := xor_u32 X2 X3 l2 l3
      have hx2 := xor_u32 (X2 ^^^ X3) X4 l23 l4
      rw [← hp] at hx2
      generalize X2 ^^^ X3 = X23 at *
      clear hp hlen l2 l3 l4 l23 HF HRb HRA HRB HAA HAB HB2 HO2 hi hz0 hz1 hz2
      have bA : (a.length : Int) ≤ (capa : Int) := by omega
      have bB : (a.length : Int) ≤ (capb : Int) := by omega
      go_upto_region 12 with fail
      go_cut [4] (fun x wc => x = .bool true ∧ Hid (Below w.heap.size w wc))
      case first =>
        have H0 := hide (Below.drew (Below.refl wr.heap.size wr))
        go_region_held (fun _ => True) (trivial) (first
          | (go_at_call_of 11 (Value.slice (some ⟨w1.heap.size, 0, none⟩) a.length a.length); refine (C1.out _ (by first | exact H0.out | exact H0.out.alloc H0.out.size _)).mono ?_; rintro e w4 ⟨rfl, p4, h4⟩; have P4 := hide p4; have H4 := hide h4; clear p4 h4)
          | (go_at_call_of 11 (Value.slice aa a.length capa); refine (C2.out _ (by first | exact H4.out | exact H4.out.alloc H4.out.size _)).mono ?_; rintro e w5 ⟨rfl, p5, h5⟩; have P5 := hide p5; have H5 := hide h5; clear p5 h5)
          | (go_at_call_of 11 (Value.slice ab a.length capb); refine (C3.out _ (by first | exact H5.out | exact H5.out.alloc H5.out.size _)).mono ?_; rintro e w6 ⟨rfl, p6, h6⟩; have P6 := hide p6; have H6 := hide h6; clear p6 h6)
          | (go_at_call 11; refine (C4.out _ _ (by first | exact H6.out | exact H6.out.alloc H6.out.size _) (by first | exact Rd.made _ _ HM.out | exact (Rd.made _ _ HM.out).below P6.out (Nat.le_refl _) | exact ((Rd.made _ _ HM.out).below P5.out (Nat.le_refl _)).below P6.out (Nat.le_refl _) | exact (((Rd.made wr.drew _ HM.out).below P4.out (Nat.le_refl _)).below P5.out (Nat.le_refl _)).below P6.out (Nat.le_refl _))).mono ?_; rintro e w7 ⟨rfl, p7, h7⟩; have H7 := hide h7; clear p7 h7))
        all_goals (go_wp2_with fail; go_meet; exact ⟨rfl, HBr.out.trans (H7.out.mono HBr.out.size)⟩)
      case rest =>
      obtain ⟨rfl, HB8⟩ := hcut
      go_wp2
      go_ret
      exact ⟨rfl, HB8.out⟩

end Go.Proofs.Ythgcgpmdllcdhaa.crcLinear
