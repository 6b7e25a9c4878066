/- Contract of snapshot: manifest.data. -/
import Derived.Test.YtanmjihiceibbaaSnapEncA
import Derived.Test.YtanmjihiceibbaaPack3
import Derived.Test.YtanmjihiceibbaaStepCall
import Derived.Test.YtanmjihiceibbaaCodecEnc
import Derived.Deep.RegionHeld2
namespace Go.Proofs.Ytanmjihiceibbaa
open Go.RowKit

/-- A manifest's data, by its numbers. -/
def maniD (i n m : Nat) : List UInt8 := 115 :: (Lib.uvarint 3 ++ (Lib.uvarint i ++ (Lib.uvarint n ++ Lib.leBytes 4 m)))

theorem maniD_eq (i : Nat) (l : List UInt8) : maniD i l.length (crcMore 0 l) = maniN i l := rfl

theorem rd115 (W : World) (N : Nat) (hN : N = W.heap.size) : Rd (W.alloc (.cells #[.int .u8 115] 5)) (.slice (some ⟨N, 0, none⟩) 1 1) [115] := by
  subst hN
  refine ⟨some ⟨W.heap.size, 0, none⟩, 1, rfl, Nat.le_refl _, by unfold maxLen; omega, (fun h => by cases h), .inr ⟨W.heap.size, 0, rfl, fun j hj => ?_⟩⟩
  have e : j = 0 := by simpa using hj
  subst e
  rw [cell_of_row _ W.heap.size _ _ 5 (0, 0) (heap_alloc_new W _)]
  rfl

theorem rd115d (W : World) (N : Nat) (hN : N = W.heap.size) : Rd (W.alloc (.cells #[.int .u8 115] 5)).drew (.slice (some ⟨N, 0, none⟩) 1 1) [115] :=
  (rd115 W N hN).below (((Below.refl _ _)).drew) (Nat.le_refl _)

theorem concat5 (W : World) (N : Nat) (hN : N = W.heap.size) (v0 v1 v2 v3 v4 : Value) (l0 l1 l2 l3 l4 : List UInt8) (h0 : Rd W v0 l0) (h1 : Rd W v1 l1) (h2 : Rd W v2 l2) (h3 : Rd W v3 l3) (h4 : Rd W v4 l4) (hlim : l0.length + l1.length + l2.length + l3.length + l4.length ≤ 1000000) :
    Calls Try.prog 54 #[.slice (some ⟨N, 0, none⟩) 5 5] (W.alloc (.cells #[v0, v1, v2, v3, v4] 30)) fun e w' => ∃ v', e = .returned v' ∧ Own w' W.heap.size v' (l0 ++ (l1 ++ (l2 ++ (l3 ++ l4)))) ∧ Below W.heap.size W w' := by
  have hr := RdL.built W N hN #[v0, v1, v2, v3, v4] [l0, l1, l2, l3, l4] (by simp) (fun j hj => by
    match j, hj with
    | 0, _ => exact ⟨v0, rfl, h0⟩
    | 1, _ => exact ⟨v1, rfl, h1⟩
    | 2, _ => exact ⟨v2, rfl, h2⟩
    | 3, _ => exact ⟨v3, rfl, h3⟩
    | 4, _ => exact ⟨v4, rfl, h4⟩)
  refine (concat_any _ _ _ hr (by simp; omega) (by simp)).mono ?_
  rintro e w' ⟨v', rfl, ho, hb⟩
  have ef : [l0, l1, l2, l3, l4].flatten = l0 ++ (l1 ++ (l2 ++ (l3 ++ l4))) := by simp
  rw [ef] at ho
  exact ⟨v', rfl, ho.mono (by simp), ((Below.refl _ _).alloc (Nat.le_refl _) _).trans (hb.mono (by simp))⟩

/-- A manifest's box. -/
def Bm (w : World) (b : Nat) (x y z : Value) : Prop := w.heap[b]? = some (.cells #[x, y, z] 54 (0, 0))

theorem Bm.lt {w : World} {b : Nat} {x y z : Value} (h : Bm w b x y z) : b < w.heap.size := (Array.getElem?_eq_some_iff.1 h).1

theorem Bm.below {w w' : World} {b B : Nat} {x y z : Value} (h : Bm w b x y z) (hb : Below B w w') (hB : w.heap.size ≤ B) : Bm w' b x y z := (hb.block b (by have := h.lt; omega)).trans h

theorem Bm.cells {w : World} {b : Nat} {x y z : Value} (h : Bm w b x y z) : w.cell? ⟨b, 0, none⟩ = some x ∧ w.cell? ⟨b, 1, none⟩ = some y ∧ w.cell? ⟨b, 2, none⟩ = some z :=
  ⟨cell_of_row w b 0 _ _ _ h, cell_of_row w b 1 _ _ _ h, cell_of_row w b 2 _ _ _ h⟩

theorem Bm.froz {w : World} {b : Nat} {x y z : Value} (h : Bm w b x y z) (j : Nat) : w.frozen? ⟨b, j, none⟩ = false := frozen_of_row w b j _ _ h

set_option maxRecDepth 100000 in
set_option maxHeartbeats 40000000 in
theorem data_any (i n : Int) (m : Nat) (w : World) (hi : 0 ≤ i ∧ i < 4611686018427387904) (hn : 0 ≤ n ∧ n < 4611686018427387904) (hm : m < 4294967296) :
    Calls Try.prog 23 #[.agg #[.int .i64 i, .int .i64 n, .int .u32 (m : Int)]] w fun e w' => ∃ v', e = .returned v' ∧ Own w' w.heap.size v' (maniD i.toNat n.toNat m) ∧ Below w.heap.size w w' := by
  have HPU : Hid (∀ k W, 0 ≤ k → k < 4611686018427387904 → Calls Try.prog 55 #[.slice none 0 0, .int .i64 k] W fun e w' => ∃ v', e = .returned v' ∧ Own w' W.heap.size v' (Lib.uvarint k.toNat) ∧ Below W.heap.size W w') := hide (fun k W h0 h1 => by
    have h := put_any (.slice none 0 0) [] k W (Rd.nil W) (by simp)
    rw [putOf_small h0 h1, List.nil_append] at h
    exact h)
  have HP1 := hide (fun W => HPU.out 3 W (by omega) (by omega))
  have HP2 := hide (fun W => HPU.out i W hi.1 hi.2)
  have HP3 := hide (fun W => HPU.out n W hn.1 hn.2)
  have HFX := hide (fun W => fixed32_any m W hm)
  have q1 : (Lib.uvarint (3 : Int).toNat).length ≤ 10 := uv10' (by decide)
  have q2 : (Lib.uvarint i.toNat).length ≤ 10 := uv10' (by omega)
  have q3 : (Lib.uvarint n.toNat).length ≤ 10 := uv10' (by omega)
  have q4 : (Lib.leBytes 4 m).length ≤ 10 := by rw [Lib.leBytes_length]; decide
  have HE : Hid (maniD i.toNat n.toNat m = [115] ++ (Lib.uvarint (3 : Int).toNat ++ (Lib.uvarint i.toNat ++ (Lib.uvarint n.toNat ++ Lib.leBytes 4 m)))) := hide rfl
  rw [HE.out]
  have HCC := hide (fun W N v0 v1 v2 v3 v4 hN h0 h1 h2 h3 h4 => concat5 W N hN v0 v1 v2 v3 v4 [115] (Lib.uvarint (3 : Int).toNat) (Lib.uvarint i.toNat) (Lib.uvarint n.toNat) (Lib.leBytes 4 m) h0 h1 h2 h3 h4 (by simp only [List.length_singleton]; omega))
  generalize Lib.uvarint (3 : Int).toNat = L1 at *
  generalize Lib.uvarint i.toNat = L2 at *
  generalize Lib.uvarint n.toNat = L3 at *
  generalize Lib.leBytes 4 m = L4 at *
  generalize [115] ++ (L1 ++ (L2 ++ (L3 ++ L4))) = LL at *
  obtain ⟨M, hM⟩ : ∃ M : Int, M = (m : Int) := ⟨_, rfl⟩
  rw [← hM] at HFX ⊢
  clear hM HE HPU q1 q2 q3 q4 hi hn hm
  obtain ⟨W0, hW0⟩ : ∃ W0, W0 = w.alloc (.cells #[.int .i64 i, .int .i64 n, .int .u32 M] 54) := ⟨_, rfl⟩
  have HB0 : Hid (Below w.heap.size w W0) := hide (by rw [hW0]; exact (Below.refl _ _).alloc (Nat.le_refl _) _)
  have HX0 : Hid (Bm W0 w.heap.size (.int .i64 i) (.int .i64 n) (.int .u32 M)) := hide (by rw [hW0]; exact heap_alloc_new w _)
  have HK : Hid (∀ W, Below W0.heap.size W0 W → W.cell? ⟨w.heap.size, 0, none⟩ = some (.int .i64 i) ∧ W.cell? ⟨w.heap.size, 1, none⟩ = some (.int .i64 n) ∧ W.cell? ⟨w.heap.size, 2, none⟩ = some (.int .u32 M)) := hide (fun W h => (HX0.out.below h (Nat.le_refl _)).cells)
  have HZ : Hid (∀ W X, Below W0.heap.size W0 W → Below W0.heap.size W0 (W.alloc X)) := hide (fun W X h => h.alloc h.size X)
  have HZd : Hid (∀ W, Below W0.heap.size W0 W → Below W0.heap.size W0 W.drew) := hide (fun W h => h.drew)
  have HS0 : Hid (Below W0.heap.size W0 W0.drew) := hide ((Below.refl _ _).drew)
  have HS0a : Hid (Below W0.heap.size W0 (W0.alloc (.cells #[.int .u8 115] 5)).drew) := hide (((Below.refl _ _).alloc (Nat.le_refl _) _).drew)
  go_enter Try.func23, Try.ntmps23
  go_upto_region 1 with fail
  rw [← hW0]
  clear hW0
  have HEP : Hid (∀ args w, (callFunc 55 args).run Try.prog w = .ok (.enter 55 args) w) := hide (enters_of Try.func55 (by kernel_rfl) rfl)
  have HEF : Hid (∀ args w, (callFunc 58 args).run Try.prog w = .ok (.enter 58 args) w) := hide (enters_of Try.func58 (by kernel_rfl) rfl)
  have HEC : Hid (∀ args w, (callFunc 54 args).run Try.prog w = .ok (.enter 54 args) w) := hide (enters_of Try.func54 (by kernel_rfl) rfl)
  go_region_held2 (fun w' => w'.cell? ⟨w.heap.size, 0, none⟩ = some (.int .i64 i) ∧ w'.cell? ⟨w.heap.size, 1, none⟩ = some (.int .i64 n) ∧ w'.cell? ⟨w.heap.size, 2, none⟩ = some (.int .u32 M))
    (first | (with_reducible exact HK.out _ HS0.out) | (with_reducible exact HK.out _ HS0a.out) | (with_reducible exact HK.out _ hbk5) | (with_reducible exact HK.out _ hbk4) | (with_reducible exact HK.out _ hbk3) | (with_reducible exact HK.out _ hbk2) | (with_reducible exact HK.out _ hbk1) | (with_reducible exact HK.out _ (HZ.out _ _ hbk4)) | (with_reducible exact HK.out _ (HZ.out _ _ hbk3)) | (with_reducible exact HK.out _ (HZ.out _ _ hbk2)) | (with_reducible exact HK.out _ (HZ.out _ _ hbk1)) | (with_reducible exact HK.out _ (HZ.out _ _ (HZ.out _ _ hbk4))))
    (first
      | ((with_reducible refine step_call 55 _ _ rfl rfl #[.slice none 0 0, .int .i64 3] (by simp [Act.eval]) HEP.out (HP1.out W0.drew) ?_); rintro v1 W1 ⟨ho1, hb1⟩; have hbk1 : Below W0.heap.size W0 W1 := HS0.out.trans (hb1.mono HS0.out.size); obtain ⟨a1, c1, hv, -⟩ := ho1.rd; subst hv; have HO1 := hide ho1.rd; clear ho1 hb1)
      | ((with_reducible refine step_call 55 _ _ rfl rfl #[.slice none 0 0, .int .i64 3] (by simp [Act.eval]) HEP.out (HP1.out (W0.alloc (.cells #[.int .u8 115] 5)).drew) ?_); rintro v1 W1 ⟨ho1, hb1⟩; have hbk1 : Below W0.heap.size W0 W1 := HS0a.out.trans (hb1.mono HS0a.out.size); have HM1 := hide ((rd115d W0 _ rfl).below hb1 (Nat.le_refl _)); obtain ⟨a1, c1, hv, -⟩ := ho1.rd; subst hv; have HO1 := hide ho1.rd; clear ho1 hb1)
      | (have hmm := HM1.out; (with_reducible refine step_call 55 _ _ rfl rfl #[.slice none 0 0, .int .i64 i] (by simp [Act.eval]) HEP.out (HP2.out W1) ?_); rintro v2 W2 ⟨ho2, hb2⟩; have hst : Below W1.heap.size W1 W2 := hb2; have hbk2 : Below W0.heap.size W0 W2 := hbk1.trans (hst.mono hbk1.size); have HM2 := hide (hmm.below hst (Nat.le_refl _)); clear hmm; have HO1_2 := hide (HO1.out.below hst (Nat.le_refl _)); clear hst; obtain ⟨a2, c2, hv, -⟩ := ho2.rd; subst hv; have HO2 := hide ho2.rd; clear ho2 hb2)
      | ((with_reducible refine step_call 55 _ _ rfl rfl #[.slice none 0 0, .int .i64 i] (by simp [Act.eval]) HEP.out (HP2.out W1) ?_); rintro v2 W2 ⟨ho2, hb2⟩; have hst : Below W1.heap.size W1 W2 := hb2; have hbk2 : Below W0.heap.size W0 W2 := hbk1.trans (hst.mono hbk1.size); have HO1_2 := hide (HO1.out.below hst (Nat.le_refl _)); clear hst; obtain ⟨a2, c2, hv, -⟩ := ho2.rd; subst hv; have HO2 := hide ho2.rd; clear ho2 hb2)
      | ((with_reducible refine step_call 55 _ _ rfl rfl #[.slice none 0 0, .int .i64 i] (by simp [Act.eval]) HEP.out (HP2.out (W1.alloc (.cells #[.int .u8 115] 5))) ?_); rintro v2 W2 ⟨ho2, hb2⟩; have hst : Below W1.heap.size W1 W2 := ((Below.refl _ _).alloc (Nat.le_refl _) _).trans (hb2.mono (by simp)); have hbk2 : Below W0.heap.size W0 W2 := hbk1.trans (hst.mono hbk1.size); have HM2 := hide ((rd115 W1 _ rfl).below hb2 (Nat.le_refl _)); have HO1_2 := hide (HO1.out.below hst (Nat.le_refl _)); clear hst; obtain ⟨a2, c2, hv, -⟩ := ho2.rd; subst hv; have HO2 := hide ho2.rd; clear ho2 hb2)
      | (have hmm := HM2.out; (with_reducible refine step_call 55 _ _ rfl rfl #[.slice none 0 0, .int .i64 n] (by simp [Act.eval]) HEP.out (HP3.out W2) ?_); rintro v3 W3 ⟨ho3, hb3⟩; have hst : Below W2.heap.size W2 W3 := hb3; have hbk3 : Below W0.heap.size W0 W3 := hbk2.trans (hst.mono hbk2.size); have HM3 := hide (hmm.below hst (Nat.le_refl _)); clear hmm; have HO1_3 := hide (HO1_2.out.below hst (Nat.le_refl _)); have HO2_3 := hide (HO2.out.below hst (Nat.le_refl _)); clear hst; obtain ⟨a3, c3, hv, -⟩ := ho3.rd; subst hv; have HO3 := hide ho3.rd; clear ho3 hb3)
      | ((with_reducible refine step_call 55 _ _ rfl rfl #[.slice none 0 0, .int .i64 n] (by simp [Act.eval]) HEP.out (HP3.out W2) ?_); rintro v3 W3 ⟨ho3, hb3⟩; have hst : Below W2.heap.size W2 W3 := hb3; have hbk3 : Below W0.heap.size W0 W3 := hbk2.trans (hst.mono hbk2.size); have HO1_3 := hide (HO1_2.out.below hst (Nat.le_refl _)); have HO2_3 := hide (HO2.out.below hst (Nat.le_refl _)); clear hst; obtain ⟨a3, c3, hv, -⟩ := ho3.rd; subst hv; have HO3 := hide ho3.rd; clear ho3 hb3)
      | ((with_reducible refine step_call 55 _ _ rfl rfl #[.slice none 0 0, .int .i64 n] (by simp [Act.eval]) HEP.out (HP3.out (W2.alloc (.cells #[.int .u8 115] 5))) ?_); rintro v3 W3 ⟨ho3, hb3⟩; have hst : Below W2.heap.size W2 W3 := ((Below.refl _ _).alloc (Nat.le_refl _) _).trans (hb3.mono (by simp)); have hbk3 : Below W0.heap.size W0 W3 := hbk2.trans (hst.mono hbk2.size); have HM3 := hide ((rd115 W2 _ rfl).below hb3 (Nat.le_refl _)); have HO1_3 := hide (HO1_2.out.below hst (Nat.le_refl _)); have HO2_3 := hide (HO2.out.below hst (Nat.le_refl _)); clear hst; obtain ⟨a3, c3, hv, -⟩ := ho3.rd; subst hv; have HO3 := hide ho3.rd; clear ho3 hb3)
      | (have hmm := HM3.out; (with_reducible refine step_call 58 _ _ rfl rfl #[.int .u32 M] (by simp [Act.eval]) HEF.out (HFX.out W3) ?_); rintro v4 W4 ⟨ho4, hb4⟩; have hst : Below W3.heap.size W3 W4 := hb4; have hbk4 : Below W0.heap.size W0 W4 := hbk3.trans (hst.mono hbk3.size); have HM4 := hide (hmm.below hst (Nat.le_refl _)); clear hmm; have HO1_4 := hide (HO1_3.out.below hst (Nat.le_refl _)); have HO2_4 := hide (HO2_3.out.below hst (Nat.le_refl _)); have HO3_4 := hide (HO3.out.below hst (Nat.le_refl _)); clear hst; obtain ⟨a4, c4, hv, -⟩ := ho4.rd; subst hv; have HO4 := hide ho4.rd; clear ho4 hb4)
      | ((with_reducible refine step_call 58 _ _ rfl rfl #[.int .u32 M] (by simp [Act.eval]) HEF.out (HFX.out W3) ?_); rintro v4 W4 ⟨ho4, hb4⟩; have hst : Below W3.heap.size W3 W4 := hb4; have hbk4 : Below W0.heap.size W0 W4 := hbk3.trans (hst.mono hbk3.size); have HO1_4 := hide (HO1_3.out.below hst (Nat.le_refl _)); have HO2_4 := hide (HO2_3.out.below hst (Nat.le_refl _)); have HO3_4 := hide (HO3.out.below hst (Nat.le_refl _)); clear hst; obtain ⟨a4, c4, hv, -⟩ := ho4.rd; subst hv; have HO4 := hide ho4.rd; clear ho4 hb4)
      | ((with_reducible refine step_call 58 _ _ rfl rfl #[.int .u32 M] (by simp [Act.eval]) HEF.out (HFX.out (W3.alloc (.cells #[.int .u8 115] 5))) ?_); rintro v4 W4 ⟨ho4, hb4⟩; have hst : Below W3.heap.size W3 W4 := ((Below.refl _ _).alloc (Nat.le_refl _) _).trans (hb4.mono (by simp)); have hbk4 : Below W0.heap.size W0 W4 := hbk3.trans (hst.mono hbk3.size); have HM4 := hide ((rd115 W3 _ rfl).below hb4 (Nat.le_refl _)); have HO1_4 := hide (HO1_3.out.below hst (Nat.le_refl _)); have HO2_4 := hide (HO2_3.out.below hst (Nat.le_refl _)); have HO3_4 := hide (HO3.out.below hst (Nat.le_refl _)); clear hst; obtain ⟨a4, c4, hv, -⟩ := ho4.rd; subst hv; have HO4 := hide ho4.rd; clear ho4 hb4)
      | (have hmm := HM4.out; (with_reducible refine step_call 54 _ _ rfl rfl #[.slice (some ⟨W4.heap.size, 0, none⟩) 5 5] (by simp [Act.eval]) HEC.out (HCC.out W4 W4.heap.size _ _ _ _ _ rfl hmm HO1_4.out HO2_4.out HO3_4.out HO4.out) ?_); rintro v5 W5 ⟨ho5, hb5⟩; have hbk5 : Below W0.heap.size W0 W5 := hbk4.trans (hb5.mono hbk4.size); have HO5 := hide (ho5.mono (Nat.le_trans HB0.out.size hbk4.size)); clear ho5 hb5 hmm)
      | (refine step_call 54 _ _ rfl rfl #[.slice (some ⟨W4.heap.size + 1, 0, none⟩) 5 5] (by simp [Act.eval]) HEC.out (HCC.out (W4.alloc (.cells #[.int .u8 115] 5)) (W4.heap.size + 1) _ _ _ _ _ (by simp) (rd115 W4 _ rfl) (HO1_4.out.below ((Below.refl _ _).alloc (Nat.le_refl _) _) (Nat.le_refl _)) (HO2_4.out.below ((Below.refl _ _).alloc (Nat.le_refl _) _) (Nat.le_refl _)) (HO3_4.out.below ((Below.refl _ _).alloc (Nat.le_refl _) _) (Nat.le_refl _)) (HO4.out.below ((Below.refl _ _).alloc (Nat.le_refl _) _) (Nat.le_refl _))) ?_; rintro v5 W5 ⟨ho5, hb5⟩; have hbk5 : Below W0.heap.size W0 W5 := (HZ.out _ _ hbk4).trans (hb5.mono (HZ.out _ _ hbk4).size); have HO5 := hide (ho5.mono (Nat.le_trans HB0.out.size (HZ.out _ _ hbk4).size)); clear ho5 hb5))
  all_goals
    go_wp2
    go_ret
    exact ⟨_, rfl, HO5.out, HB0.out.trans (hbk5.mono HB0.out.size)⟩

end Go.Proofs.Ytanmjihiceibbaa
