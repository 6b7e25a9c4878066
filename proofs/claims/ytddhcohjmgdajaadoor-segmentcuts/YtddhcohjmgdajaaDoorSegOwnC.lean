/- Contracts of segment: size, frames, footer, heading.data, Head, Body. -/
import Derived.Test.YtddhcohjmgdajaaDoorSegOwnB
import Derived.Test.YtddhcohjmgdajaaDoorFrameOwnL
namespace Go.Proofs.YtddhcohjmgdajaaDoor
open Go.RowKit

theorem sizeF_frame {d : List UInt8} (h : d.length ≤ 1048576) : sizeF (d.length : Int) = (frameOf d).length := by
  unfold sizeF
  rw [if_pos ⟨by omega, by omega⟩, frameOf_length, Int.toNat_natCast]
  omega

theorem framesOf_snoc {L : List (List UInt8)} {k : Nat} (h : k < L.length) : framesOf (L.take (k + 1)) = framesOf (L.take k) ++ frameOf (L.getD k []) := by
  rw [takeL_snoc h, framesOf_app]
  simp [framesOf]

theorem offs_flat : ∀ (B : List (List UInt8)) (H : List UInt8), offsS (frameOf H).length B = ((H :: B).take B.length).flatMap (fun x => Lib.uvarint (frameOf x).length)
  | [], H => by simp [offsS]
  | x :: xs, H => by
    rw [offsS, offs_flat xs x, List.length_cons, List.take_succ_cons, List.flatMap_cons]

theorem foot_flat (H : List UInt8) (B : List (List UInt8)) : footS H B = Lib.uvarint B.length ++ ((H :: B).take B.length).flatMap (fun x => Lib.uvarint (frameOf x).length) := by
  unfold footS
  rw [offs_flat]

theorem flatU_len : ∀ (A : List (List UInt8)), (∀ x ∈ A, x.length ≤ 1048576) → (A.flatMap (fun x => Lib.uvarint (frameOf x).length)).length ≤ 10 * A.length
  | [], _ => by simp
  | x :: A, h => by
    have := frameOf_len6 (h x (by simp))
    have hx := h x (by simp)
    have q : (Lib.uvarint (frameOf x).length).length ≤ 10 := uv10' (by omega)
    have ih := flatU_len A (fun y hy => h y (by simp [hy]))
    rw [List.flatMap_cons, List.length_append, List.length_cons]
    omega

set_option maxRecDepth 100000 in
set_option maxHeartbeats 2000000 in
theorem sizeG_any (v : Value) (L : List (List UInt8)) (w : World) (hr : RdL w v L) (hL : ∀ x ∈ L, x.length ≤ 1048576) (hlim : (framesOf L).length ≤ 10000000) :
    Calls Tryd.prog 40 #[v] w fun e w' => e = .returned (.int .i64 ((framesOf L).length : Nat)) ∧ Below w.heap.size w w' := by
  have HR := hide hr
  obtain ⟨ao, cap, rfl, hlc, hcm, -⟩ := hr
  have hml : (L.length : Int) ≤ 9223372036854775807 := by unfold maxLen at hcm; omega
  have HAT := hide (fun k hk => HR.out.at k hk)
  obtain ⟨Z, hZ⟩ : ∃ Z : Nat → Nat, Z = fun k => (framesOf (L.take k)).length := ⟨_, rfl⟩
  have HZ0 : Hid (Z 0 = 0) := hide (by rw [hZ]; simp [framesOf])
  have HZS : Hid (∀ k, k < L.length → Z (k + 1) = Z k + sizeF ((L.getD k []).length : Int)) := hide (fun k hk => by
    rw [hZ]
    simp only
    rw [framesOf_snoc hk, List.length_append, sizeF_frame (hL _ (getD_mem hk))])
  have HZL : Hid (∀ k, Z k ≤ 10000000) := hide (fun k => by
    rw [hZ]
    have := framesOf_take L k
    simp only
    omega)
  have HZA : Hid ((framesOf L).length = Z L.length) := hide (by rw [hZ]; simp only; rw [List.take_length])
  have HSZ : Hid (∀ k, k < L.length → ∀ W, Calls Tryd.prog 44 #[.int .i64 ((L.getD k []).length : Int)] W fun e w' => e = .returned (.int .i64 (sizeF ((L.getD k []).length : Int) : Nat)) ∧ Below W.heap.size W w') := hide (fun k hk W => by
    have := hL _ (getD_mem hk)
    exact size_any _ W (by omega) (by omega))
  rw [HZA.out]
  clear hZ hlc hcm hL hlim
  go_enter Tryd.func40, Tryd.ntmps40
  go_wp2
  go_loopw [3, 8] (fun vs vi wr => ∃ k : Nat, vi = .int .i64 (k : Int) ∧ vs = .int .i64 (Z k : Int) ∧ k ≤ L.length ∧ Hid (Below w.heap.size w wr)) (fun _ vi _ => L.length - (intOf vi).toNat)
  case atStart => exact ⟨0, rfl, by rw [HZ0.out]; rfl, Nat.zero_le _, Below.refl _ _⟩
  case round =>
    obtain ⟨k, rfl, rfl, hk, hB⟩ := hrel
    by_cases hlt : k < L.length
    case neg =>
      have e : k = L.length := by omega
      subst e
      go_wp2
      go_ret
      exact ⟨rfl, hB.out⟩
    obtain ⟨b, off, x, rfl, hx, hxr⟩ := HAT.out k hlt
    have hck := hx wr hB.out
    have HSk := hide (HZS.out k hlt)
    have HCk := hide (HSZ.out k hlt)
    have hz1 := HZL.out (k + 1)
    rw [HSk.out] at hz1
    obtain ⟨a9, c9, rfl, -⟩ := hxr wr hB.out
    obtain ⟨ZK, hZK⟩ : ∃ ZK, ZK = Z (k + 1) := ⟨_, rfl⟩
    rw [← hZK] at HSk
    have HZK := hide hZK
    generalize Z k = z at *
    generalize sizeF ((L.getD k []).length : Int) = sz at *
    generalize (L.getD k []).length = n at *
    clear hx hxr hZK
    go_wp2_with fail
    refine (HCk.out _).mono ?_
    rintro e W2 ⟨rfl, hb2⟩
    have HB2 := hide (hB.out.trans (hb2.mono hB.out.size))
    clear hb2
    go_wp2
    go_roundw
    case rel => exact ⟨k + 1, by go_num, by rw [← HZK.out, HSk.out]; go_num, by omega, HB2⟩
    case measure => simp [intOf]; omega

set_option maxRecDepth 100000 in
set_option maxHeartbeats 2000000 in
theorem frames_any (v : Value) (L : List (List UInt8)) (w : World) (hr : RdL w v L) (hL : ∀ x ∈ L, x.length ≤ 1048576) (hlim : (framesOf L).length ≤ 10000000) :
    Calls Tryd.prog 22 #[v] w fun e w' => ∃ v', e = .returned v' ∧ Own w' w.heap.size v' (framesOf L) ∧ Below w.heap.size w w' := by
  have HR := hide hr
  have HSG := hide (sizeG_any v L w hr hL hlim)
  obtain ⟨i0, hi, hz0, hz1, hz2⟩ := info_parts info8
  obtain ⟨ao, cap, rfl, hlc, hcm, -⟩ := hr
  have hml : (L.length : Int) ≤ 9223372036854775807 := by unfold maxLen at hcm; omega
  have HAT := hide (fun k hk => HR.out.at k hk)
  have HFS := hide (fun k hk => framesOf_snoc (L := L) (k := k) hk)
  have HFL := hide (fun k => Nat.le_trans (framesOf_take L k) hlim)
  have HALL : Hid (framesOf (L.take L.length) = framesOf L) := hide (by rw [List.take_length])
  have HEN : Hid (∀ k, k < L.length → ∀ v1 W, Rd W v1 (L.getD k []) → Calls Tryd.prog 29 #[v1] W fun e w' => ∃ v', e = .returned (.tuple #[v', .int .i64 0]) ∧ Own w' W.heap.size v' (frameOf (L.getD k [])) ∧ Below W.heap.size W w') := hide (fun k hk v1 W h => by
    have h := encode_any v1 _ W h
    rw [frame_ok (hL _ (getD_mem hk))] at h
    exact h)
  obtain ⟨z, hz⟩ : ∃ z, z = (framesOf L).length := ⟨_, rfl⟩
  rw [← hz] at HSG hlim
  clear hz hlc hcm hL
  go_enter Tryd.func22, Tryd.ntmps22
  go_wp2_with fail
  refine HSG.out.mono ?_
  rintro e W1 ⟨rfl, hb1⟩
  have HB1 := hide hb1
  have hs1 := hb1.size
  clear hb1 HSG
  go_wp2_with (at_make; refine wpList_make_own _ rfl _ _ 26 rfl w.heap.size 5 i0 (.int .u8 0) 1 Tryd.underlying26 hi hz0 hz1 _ _ _ z rfl rfl (by omega) (by rw [hz2]; omega) (by unfold maxLen; omega) hs1 ?_)
  intro W2 hown hgrow
  have HO2 : Hid (Own W2 w.heap.size (.slice (some ⟨W1.heap.size, 0, none⟩) 0 z) (framesOf (L.take 0))) := hown
  have HB2 := hide (HB1.out.grown hgrow hs1 (fun k hk => by cases hk))
  clear hown hgrow HB1 hs1
  go_wp2
  go_loopw [3, 13] (fun vo vi wr => ∃ k : Nat, vi = .int .i64 (k : Int) ∧ k ≤ L.length ∧ Hid (Own wr w.heap.size vo (framesOf (L.take k))) ∧ Hid (Below w.heap.size w wr)) (fun _ vi _ => L.length - (intOf vi).toNat)
  case atStart => exact ⟨0, rfl, Nat.zero_le _, HO2, HB2⟩
  case round =>
    obtain ⟨k, rfl, hk, hO, hB⟩ := hrel
    by_cases hlt : k < L.length
    case neg =>
      have e : k = L.length := by omega
      have HOE : Hid (Own wr w.heap.size u3 (framesOf L)) := hide (by rw [← HALL.out, ← e]; exact hO.out)
      clear hO e
      go_wp2
      go_ret
      exact ⟨_, rfl, HOE.out, hB.out⟩
    obtain ⟨b, off, x, rfl, hx, hxr⟩ := HAT.out k hlt
    have hck := hx wr hB.out
    have HX := hide (hxr wr hB.out)
    have HSk := hide (HFS.out k hlt)
    have HEk := hide (HEN.out k hlt)
    have HLk := hide (HFL.out (k + 1))
    rw [HSk.out] at HLk
    obtain ⟨P2, hP2⟩ : ∃ P2, P2 = framesOf (L.take (k + 1)) := ⟨_, rfl⟩
    rw [← hP2] at HSk
    have HP2 := hide hP2
    generalize framesOf (L.take k) = P at *
    generalize L.getD k [] = y at *
    generalize frameOf y = fy at *
    have hly : P.length + fy.length ≤ 10000000 := by have := HLk.out; rw [List.length_append] at this; omega
    clear hx hxr hP2 HLk HO2 HB2
    go_wp2_with fail
    refine (HEk.out _ _ HX.out).mono ?_
    rintro e W3 ⟨v3, rfl, ho3, hb3⟩
    have HF3 := hide ho3.rd
    have HO3 := hide (hO.out.below hb3 (Nat.le_refl _))
    have HB3 := hide (hB.out.trans (hb3.mono hB.out.size))
    have hs3 := HB3.out.size
    obtain ⟨a3, c3, rfl, -⟩ := ho3.rd
    clear ho3 hb3 HX hck
    go_wp2_with (at_builtin; refine wpList_append_rd _ rfl _ _ rfl w.heap.size _ P rfl HO3.out _ fy rfl HF3.out (by omega) hs3 ?_)
    intro v4 W4 ho4 hb4
    rw [← HSk.out] at ho4
    have HO4 := hide ho4
    have HB4 := hide (HB3.out.trans hb4)
    clear ho4 hb4
    go_wp2
    go_roundw
    case rel => exact ⟨k + 1, by go_num, by omega, hide (by rw [← HP2.out]; exact HO4.out), HB4⟩
    case measure => simp [intOf]; omega

theorem putN_any (n : Nat) (W : World) (h : n < 4611686018427387904) :
    Calls Tryd.prog 42 #[.slice none 0 0, .int .i64 (n : Int)] W fun e w' => ∃ v', e = .returned v' ∧ Own w' W.heap.size v' (Lib.uvarint n) ∧ Below W.heap.size W w' := by
  have hx := put_any (.slice none 0 0) [] (n : Int) W (Rd.nil _) (by simp)
  have e : putOf [] (n : Int) = Lib.uvarint n := by
    unfold putOf
    rw [if_pos ⟨by omega, by omega⟩, Int.toNat_natCast, List.nil_append]
  rw [e] at hx
  exact hx

set_option maxRecDepth 100000 in
set_option maxHeartbeats 2000000 in
theorem footer_any (v : Value) (H : List UInt8) (B : List (List UInt8)) (w : World) (hr : RdL w v (H :: B)) (hL : ∀ x ∈ H :: B, x.length ≤ 1048576) (hn : B.length ≤ 100000) :
    Calls Tryd.prog 23 #[v] w fun e w' => ∃ v', e = .returned v' ∧ Own w' w.heap.size v' (footS H B) ∧ Below w.heap.size w w' := by
  obtain ⟨L, hLd⟩ : ∃ L, L = (H :: B).take B.length := ⟨_, rfl⟩
  have hLl : L.length = B.length := by rw [hLd, List.length_take, List.length_cons]; omega
  have HFO : Hid (footS H B = Lib.uvarint B.length ++ (L.take L.length).flatMap (fun x => Lib.uvarint (frameOf x).length)) := hide (by rw [List.take_length, foot_flat, hLd])
  have hLm : ∀ x ∈ L, x.length ≤ 1048576 := fun x hx => hL x (by rw [hLd] at hx; exact List.mem_of_mem_take hx)
  obtain ⟨ao, cap, rfl⟩ : ∃ ao cap, v = .slice ao (B.length + 1) cap := by
    obtain ⟨ao, cap, e, -⟩ := hr
    exact ⟨ao, cap, e⟩
  obtain ⟨hrf, hcf⟩ := cutL_front w ao (H :: B) (B.length + 1) cap rfl hr B.length (by simp)
  rw [← hLd] at hrf
  have kf := hcf (B.length : Int) rfl
  have HR : Hid (RdL w (.slice ao B.length cap) L) := hide hrf
  have HAT := hide (fun k hk => HR.out.at k hk)
  obtain ⟨PK, hPK⟩ : ∃ PK : Nat → List UInt8, PK = fun k => Lib.uvarint B.length ++ (L.take k).flatMap (fun x => Lib.uvarint (frameOf x).length) := ⟨_, rfl⟩
  have HPL : Hid (∀ k, (PK k).length ≤ 2000000) := hide (fun k => by
    have h := flatU_len (L.take k) (fun x hx => hLm x (List.mem_of_mem_take hx))
    have q : (Lib.uvarint B.length).length ≤ 10 := uv10' (by omega)
    rw [hPK]
    simp only [List.length_append]
    rw [List.length_take] at h
    omega)
  have HPS : Hid (∀ k, k < L.length → PK (k + 1) = PK k ++ Lib.uvarint (sizeF ((L.getD k []).length : Int))) := hide (fun k hk => by
    rw [hPK]
    simp only
    rw [takeL_snoc hk, List.flatMap_append, List.flatMap_singleton, sizeF_frame (hLm _ (getD_mem hk)), List.append_assoc])
  have HP0 : Hid (PK 0 = Lib.uvarint B.length) := hide (by rw [hPK]; simp)
  have HPA : Hid (footS H B = PK L.length) := hide (by rw [HFO.out, hPK])
  have HSZ : Hid (∀ k, k < L.length → ∀ W, Calls Tryd.prog 44 #[.int .i64 ((L.getD k []).length : Int)] W fun e w' => e = .returned (.int .i64 (sizeF ((L.getD k []).length : Int) : Nat)) ∧ Below W.heap.size W w') := hide (fun k hk W => by
    have := hLm _ (getD_mem hk)
    exact size_any _ W (by omega) (by omega))
  have HSF : Hid (∀ k, k < L.length → sizeF ((L.getD k []).length : Int) ≤ 2000000) := hide (fun k hk => by
    rw [sizeF_frame (hLm _ (getD_mem hk))]
    have := frameOf_len6 (hLm _ (getD_mem hk))
    have := hLm _ (getD_mem hk)
    omega)
  have HU := hide (fun (n : Nat) W (h : n < 4611686018427387904) => putN_any n W h)
  have HU0 := hide (fun W => HU.out B.length W (by omega))
  rw [HPA.out]
  rw [← HP0.out] at HU0
  clear HFO hPK hr hrf hcf hL hLm hLd HPA
  have hb1 : ((B.length + 1 : Nat) : Int) - 1 = (B.length : Int) := by omega
  rw [← hLl] at HU0 HR kf hb1 hn ⊢
  generalize B.length = n0 at *
  clear hLl
  go_enter Tryd.func23, Tryd.ntmps23
  go_wp2_with fail
  refine (HU0.out _).mono ?_
  rintro e W1 ⟨v1, rfl, ho1, hb1⟩
  have HO1 := hide ho1
  have HB1 := hide hb1
  clear ho1 hb1 HU0
  go_wp2
  go_loopw [4, 16] (fun vo vi wr => ∃ k : Nat, vi = .int .i64 (k : Int) ∧ k ≤ L.length ∧ Hid (Own wr w.heap.size vo (PK k)) ∧ Hid (Below w.heap.size w wr)) (fun _ vi _ => L.length - (intOf vi).toNat)
  case atStart => exact ⟨0, rfl, Nat.zero_le _, HO1, HB1⟩
  case round =>
    obtain ⟨k, rfl, hk, hO, hB⟩ := hrel
    by_cases hlt : k < L.length
    case neg =>
      have e : k = L.length := by omega
      have HOE : Hid (Own wr w.heap.size u4 (PK L.length)) := hide (by rw [← e]; exact hO.out)
      clear hO e
      go_wp2
      go_ret
      exact ⟨_, rfl, HOE.out, hB.out⟩
    obtain ⟨b, off, x, rfl, hx, hxr⟩ := HAT.out k hlt
    have hck := hx wr hB.out
    have HSk := hide (HPS.out k hlt)
    have HCk := hide (HSZ.out k hlt)
    have hsk := HSF.out k hlt
    have hlp := HPL.out k
    obtain ⟨a9, c9, rfl, -⟩ := hxr wr hB.out
    obtain ⟨P2, hP2⟩ : ∃ P2, P2 = PK (k + 1) := ⟨_, rfl⟩
    rw [← hP2] at HSk
    have HP2 := hide hP2
    generalize PK k = P at *
    generalize sizeF ((L.getD k []).length : Int) = sz at *
    generalize (L.getD k []).length = n at *
    have HUk := hide (fun W => HU.out sz W (by omega))
    have hu10 : (Lib.uvarint sz).length ≤ 10 := uv10' (by omega)
    generalize Lib.uvarint sz = U at *
    clear hx hxr hP2 HO1 HB1
    go_wp2_with fail
    refine (HCk.out _).mono ?_
    rintro e W2 ⟨rfl, hb2⟩
    have HO2 := hide (hO.out.below hb2 (Nat.le_refl _))
    have HB2 := hide (hB.out.trans (hb2.mono hB.out.size))
    clear hb2 hO hB hck HCk
    go_wp2_with fail
    refine (HUk.out _).mono ?_
    rintro e W3 ⟨v3, rfl, ho3, hb3⟩
    have HF3 := hide ho3.rd
    have HO3 := hide (HO2.out.below hb3 (Nat.le_refl _))
    have HB3 := hide (HB2.out.trans (hb3.mono HB2.out.size))
    have hs3 := HB3.out.size
    clear ho3 hb3 HO2 HB2 HUk
    go_wp2_with (at_builtin; refine wpList_append_rd _ rfl _ _ rfl w.heap.size _ P rfl HO3.out _ U rfl HF3.out (by omega) hs3 ?_)
    intro v4 W4 ho4 hb4
    rw [← HSk.out] at ho4
    have HO4 := hide ho4
    have HB4 := hide (HB3.out.trans hb4)
    clear ho4 hb4
    go_wp2
    go_roundw
    case rel => exact ⟨k + 1, by go_num, by omega, hide (by rw [← HP2.out]; exact HO4.out), HB4⟩
    case measure => simp [intOf]; omega

set_option maxRecDepth 100000 in
theorem index_head0 (x0 x1 x2 : Int) (W : World) : (Instr.index 42 (.agg #[.int .i64 x0, .int .i64 x1, .int .i64 x2]) (.int .i64 0)).run Tryd.prog W = .ok (.int .i64 x0) W := by
  simp [Instr.index, run_underlying Tryd.underlying42, asIntOf, go_sem]

set_option maxRecDepth 100000 in
theorem index_head1 (x0 x1 x2 : Int) (W : World) : (Instr.index 42 (.agg #[.int .i64 x0, .int .i64 x1, .int .i64 x2]) (.int .i64 1)).run Tryd.prog W = .ok (.int .i64 x1) W := by
  simp [Instr.index, run_underlying Tryd.underlying42, asIntOf, go_sem]

set_option maxRecDepth 100000 in
theorem index_head2 (x0 x1 x2 : Int) (W : World) : (Instr.index 42 (.agg #[.int .i64 x0, .int .i64 x1, .int .i64 x2]) (.int .i64 2)).run Tryd.prog W = .ok (.int .i64 x2) W := by
  simp [Instr.index, run_underlying Tryd.underlying42, asIntOf, go_sem]

set_option maxRecDepth 100000 in
set_option maxHeartbeats 2000000 in
theorem headData_any (v k f : Int) (hv : 1 ≤ v ∧ v ≤ 3) (h : HeadOk k f) (w : World) :
    Calls Tryd.prog 20 #[.agg #[.int .i64 v, .int .i64 k, .int .i64 f]] w fun e w' => ∃ v', e = .returned v' ∧ Own w' w.heap.size v' (headS v.toNat k.toNat f.toNat) ∧ Below w.heap.size w w' := by
  obtain ⟨k0, k1, f0, f1⟩ := h
  have HPU : Hid (∀ v1 l n W, Rd W v1 l → l.length ≤ 1000 → 0 ≤ n → n < 4611686018427387904 → Calls Tryd.prog 42 #[v1, .int .i64 n] W fun e w' => ∃ v', e = .returned v' ∧ Own w' W.heap.size v' (l ++ Lib.uvarint n.toNat) ∧ Below W.heap.size W w') := fun v1 l n W h hl n0 n1 => by
    have h := put_any v1 l n W h (by omega)
    rw [putOf_small n0 n1] at h
    exact h
  have q1 : (Lib.uvarint v.toNat).length ≤ 10 := uv10' (by omega)
  have q2 : (Lib.uvarint k.toNat).length ≤ 10 := uv10' (by omega)
  have HE : Hid (headS v.toNat k.toNat f.toNat = (([108] ++ Lib.uvarint v.toNat) ++ Lib.uvarint k.toNat) ++ Lib.uvarint f.toNat) := hide (by unfold headS; simp)
  have HP1 := hide (fun v1 W h => HPU.out v1 [108] v W h (by simp) (by omega) (by omega))
  have HP2 := hide (fun v1 W h => HPU.out v1 ([108] ++ Lib.uvarint v.toNat) k W h (by simp only [List.length_append, List.length_singleton]; omega) k0 (by omega))
  have HP3 := hide (fun v1 W h => HPU.out v1 (([108] ++ Lib.uvarint v.toNat) ++ Lib.uvarint k.toNat) f W h (by simp only [List.length_append, List.length_singleton]; omega) f0 f1)
  rw [← HE.out] at HP3
  clear HE HPU
  obtain ⟨PK, hPK⟩ : ∃ PK : Nat → List UInt8, PK = fun q => if q = 0 then [108] else if q = 1 then [108] ++ Lib.uvarint v.toNat else if q = 2 then [108] ++ Lib.uvarint v.toNat ++ Lib.uvarint k.toNat else headS v.toNat k.toNat f.toNat := ⟨_, rfl⟩
  have e0 : [108] = PK 0 := by rw [hPK]; rfl
  have e1 : [108] ++ Lib.uvarint v.toNat = PK 1 := by rw [hPK]; rfl
  have e2 : [108] ++ Lib.uvarint v.toNat ++ Lib.uvarint k.toNat = PK 2 := by rw [hPK]; rfl
  have e3 : headS v.toNat k.toNat f.toNat = PK 3 := by rw [hPK]; rfl
  have HR0 : Hid (∀ W : World, Rd (W.alloc (.cells #[.int .u8 108] 5)) (.slice (some ⟨W.heap.size, 0, none⟩) 1 1) (PK 0)) := hide (fun W => by rw [← e0]; exact Rd.byte W 108)
  rw [e2, e3] at HP3
  rw [e2, e1] at HP2
  rw [e1, e0] at HP1
  rw [e3]
  clear e0 e1 e2 e3 hPK q1 q2
  have HB0 : Hid (∀ X Y, Below w.heap.size w ((w.alloc X).alloc Y)) := fun X Y => Below.allocs (Below.allocs (Below.refl _ _) X) Y
  go_enter Tryd.func20, Tryd.ntmps20
  go_wp2
  go_loopw [3, 8] (fun vo vi wr => ∃ q : Nat, vi = .int .i64 (q : Int) ∧ q ≤ 3 ∧ Hid (Rd wr vo (PK q)) ∧ Hid (1 ≤ q → Own wr w.heap.size vo (PK q)) ∧ Hid (Below w.heap.size w wr)) (fun _ vi _ => 3 - (intOf vi).toNat)
  case atStart =>
    refine ⟨0, rfl, Nat.zero_le _, ?_, fun h => absurd h (by decide), HB0.out _ _⟩
    have h := HR0.out (w.alloc (.cells #[.int .i64 v, .int .i64 k, .int .i64 f] 42))
    have e : (w.alloc (.cells #[.int .i64 v, .int .i64 k, .int .i64 f] 42)).heap.size = w.heap.size + 1 := by simp
    rw [e] at h
    exact h
  case round =>
    obtain ⟨q, rfl, hq, hR, hO, hB⟩ := hrel
    by_cases hlt : q < 3
    case neg =>
      have e : q = 3 := by omega
      subst e
      have HO3 := hide (hO.out (by decide))
      go_wp2
      go_ret
      exact ⟨_, rfl, HO3.out, hB.out⟩
    have h3 : q = 0 ∨ q = 1 ∨ q = 2 := by omega
    rcases h3 with rfl | rfl | rfl
    · have hix := index_head0 v k f
      go_wp2_with fail
      refine (HP1.out _ _ hR.out).mono ?_
      rintro e W2 ⟨v2, rfl, ho2, hb2⟩
      have HR2 := hide ho2.rd
      have HO2 := hide (ho2.mono hB.out.size)
      have HB2 := hide (hB.out.trans (hb2.mono hB.out.size))
      clear ho2 hb2
      go_wp2
      go_roundw
      case rel => exact ⟨1, rfl, by omega, HR2, hide (fun _ => HO2.out), HB2⟩
      case measure => simp [intOf]
    · have hix := index_head1 v k f
      go_wp2_with fail
      refine (HP2.out _ _ hR.out).mono ?_
      rintro e W2 ⟨v2, rfl, ho2, hb2⟩
      have HR2 := hide ho2.rd
      have HO2 := hide (ho2.mono hB.out.size)
      have HB2 := hide (hB.out.trans (hb2.mono hB.out.size))
      clear ho2 hb2
      go_wp2
      go_roundw
      case rel => exact ⟨2, rfl, by omega, HR2, hide (fun _ => HO2.out), HB2⟩
      case measure => simp [intOf]
    · have hix := index_head2 v k f
      go_wp2_with fail
      refine (HP3.out _ _ hR.out).mono ?_
      rintro e W2 ⟨v2, rfl, ho2, hb2⟩
      have HR2 := hide ho2.rd
      have HO2 := hide (ho2.mono hB.out.size)
      have HB2 := hide (hB.out.trans (hb2.mono hB.out.size))
      clear ho2 hb2
      go_wp2
      go_roundw
      case rel => exact ⟨3, rfl, by omega, HR2, hide (fun _ => HO2.out), HB2⟩
      case measure => simp [intOf]

set_option maxRecDepth 100000 in
set_option maxHeartbeats 2000000 in
theorem headG_any (v k f : Int) (w : World) (_ht : TabF w) :
    Calls Tryd.prog 10 #[.int .i64 v, .int .i64 k, .int .i64 f] w fun e w' => Headed w v k f e w' := by
  unfold Headed
  have HB0 : Hid (∀ X, Below w.heap.size w (w.alloc X)) := fun X => (Below.refl _ _).alloc (Nat.le_refl _) X
  have X1 : Hid (∀ cs, (w.alloc (.cells cs 42)).heap[w.heap.size]? = some (.cells cs 42 (0, 0))) := fun cs => heap_alloc_new w _
  have HFA := hide (fun W => fault_any v k f W)
  by_cases hok : (1 ≤ v ∧ v ≤ 3) ∧ HeadOk k f
  case neg =>
    have he : headErr v k f ≠ 0 ∧ headL v k f = [] := by
      unfold headErr headL
      by_cases hv : 1 ≤ v ∧ v ≤ 3
      · rw [if_pos hv, if_pos hv, if_neg (fun h => hok ⟨hv, h⟩), if_neg (fun h => hok ⟨hv, h⟩)]
        exact ⟨by decide, rfl⟩
      · rw [if_neg hv, if_neg hv]
        exact ⟨by decide, rfl⟩
    obtain ⟨he, hl⟩ := he
    rw [hl]
    generalize headErr v k f = er at *
    have he' : (er != 0) = true := by rw [bne_iff_ne]; exact he
    clear hok he hl
    go_enter Tryd.func10, Tryd.ntmps10
    go_wp2_with fail
    refine (HFA.out _).mono ?_
    rintro e W1 ⟨rfl, hb1⟩
    have HB1 := hide ((HB0.out _).trans (hb1.mono (HB0.out _).size))
    clear hb1
    go_wp2
    go_ret2
    exact ⟨_, rfl, Own.nil _ _, HB1.out⟩
  obtain ⟨hv, hh⟩ := hok
  have HDA := hide (fun W => headData_any v k f hv hh W)
  have he : headErr v k f = 0 := by unfold headErr; rw [if_pos hv, if_pos hh]
  have hl : headL v k f = frameOf (headS v.toNat k.toNat f.toNat) := by unfold headL; rw [if_pos hv, if_pos hh]
  have hlen : (headS v.toNat k.toNat f.toNat).length ≤ 40 := headS_len (by omega) (by have := hh.2.1; omega) (by have := hh.2.2.2; omega)
  have HEN := hide (fun v1 W (h : Rd W v1 (headS v.toNat k.toNat f.toNat)) => encode_any v1 _ W h)
  rw [frame_ok (by omega)] at HEN
  rw [he] at HFA ⊢
  rw [hl]
  generalize headS v.toNat k.toNat f.toNat = H at *
  generalize frameOf H = F at *
  clear hv hh he hl
  go_enter Tryd.func10, Tryd.ntmps10
  go_wp2_with fail
  refine (HFA.out _).mono ?_
  rintro e W1 ⟨rfl, hb1⟩
  have HX1 := hide ((hb1.block _ (by simp)).trans (X1.out _))
  have HB1 := hide ((HB0.out _).trans (hb1.mono (HB0.out _).size))
  clear hb1 HFA
  have c0 : W1.cell? ⟨w.heap.size, 0, none⟩ = some (.int .i64 v) := cell_of_row _ _ 0 _ _ _ HX1.out
  have c1 : W1.cell? ⟨w.heap.size, 1, none⟩ = some (.int .i64 k) := cell_of_row _ _ 1 _ _ _ HX1.out
  have c2 : W1.cell? ⟨w.heap.size, 2, none⟩ = some (.int .i64 f) := cell_of_row _ _ 2 _ _ _ HX1.out
  go_wp2_with fail
  refine (HDA.out _).mono ?_
  rintro e W2 ⟨v2, rfl, ho2, hb2⟩
  have HR2 := hide ho2.rd
  have HB2 := hide (HB1.out.trans (hb2.mono HB1.out.size))
  clear ho2 hb2 c0 c1 c2 HX1
  go_wp2_with fail
  refine (HEN.out _ _ HR2.out).mono ?_
  rintro e W3 ⟨v3, rfl, ho3, hb3⟩
  have HO3 := hide (ho3.mono HB2.out.size)
  have HB3 := hide (HB2.out.trans (hb3.mono HB2.out.size))
  clear ho3 hb3
  go_wp2
  go_ret2
  exact ⟨_, rfl, HO3.out, HB3.out⟩

set_option maxRecDepth 100000 in
set_option maxHeartbeats 2000000 in
theorem bodyG_any (v : Int) (vl : Value) (l : List Rec) (w : World) (hr : RdR w vl l) (_hlim : l.length ≤ 5000) (ht : TabF w) :
    Calls Tryd.prog 12 #[.int .i64 v, vl] w fun e w' => Bodied w v l e w' := by
  unfold Bodied bodyErr bodyL
  have HR := hide hr
  by_cases hv : 1 ≤ v ∧ v ≤ 3
  case neg =>
    have HV := hide (isVersionG_any v false (by rw [decide_eq_false hv]))
    rw [if_neg hv, if_neg hv]
    obtain ⟨ao, cap, rfl, -⟩ := hr
    clear hv
    go_enter Tryd.func12, Tryd.ntmps12
    go_wp2_with fail
    refine (HV.out _).mono ?_
    rintro e W1 ⟨rfl, rfl⟩
    go_wp2
    go_ret2
    exact ⟨_, rfl, Own.nil _ _, Below.refl _ _⟩
  have HV := hide (isVersionG_any v true (by rw [decide_eq_true hv]))
  rw [if_pos hv, if_pos hv]
  have HG := hide (goOn_any vl l w hr)
  by_cases hok : RecsOk l (l.headD zeroR).idx
  case neg =>
    rw [if_neg hok, if_neg hok]
    rw [decide_eq_false hok] at HG
    obtain ⟨ao, cap, rfl, -⟩ := hr
    clear hv hok
    go_enter Tryd.func12, Tryd.ntmps12
    go_wp2_with fail
    refine (HV.out _).mono ?_
    rintro e W1 ⟨rfl, rfl⟩
    go_wp2_with fail
    refine HG.out.mono ?_
    rintro e W2 ⟨rfl, hb2⟩
    have HB2 := hide hb2
    clear hb2
    go_wp2
    go_ret2
    exact ⟨_, rfl, Own.nil _ _, HB2.out⟩
  rw [if_pos hok, if_pos hok]
  rw [decide_eq_true hok] at HG
  obtain ⟨n, rfl⟩ : ∃ n : Nat, v = (n : Int) := ⟨v.toNat, by omega⟩
  rw [Int.toNat_natCast]
  have hbl := blocks_len (v := n) (by omega) (by omega) hok.2.1
  have hbn := blocksS_len (v := n) l
  have hfl := framesOf_len _ hbl
  have h4 := hok.1
  have HBS := hide (fun W (hb : Below w.heap.size w W) => blocks_any n (by omega) (by omega) vl l _ W (hr.below hb (Nat.le_refl _)) hok (ht.below hb (Nat.le_refl _)))
  have HFR := hide (fun v1 W (h : RdL W v1 (blocksS n l)) => frames_any v1 _ W h (fun x hx => by have := hbl x hx; omega) (by omega))
  obtain ⟨ao, cap, rfl, -⟩ := hr
  generalize blocksS n l = B at *
  generalize framesOf B = F at *
  clear hv hok hbl hbn hfl h4
  go_enter Tryd.func12, Tryd.ntmps12
  go_wp2_with fail
  refine (HV.out _).mono ?_
  rintro e W1 ⟨rfl, rfl⟩
  go_wp2_with fail
  refine HG.out.mono ?_
  rintro e W2 ⟨rfl, hb2⟩
  have HB2 := hide hb2
  clear hb2 HG
  go_wp2_with fail
  refine (HBS.out _ HB2.out).mono ?_
  rintro e W3 ⟨v3, rfl, ho3, hb3⟩
  have HL3 := hide ho3.rd
  have HB3 := hide (HB2.out.trans (hb3.mono HB2.out.size))
  clear ho3 hb3 HBS
  go_wp2_with fail
  refine (HFR.out _ _ HL3.out).mono ?_
  rintro e W4 ⟨v4, rfl, ho4, hb4⟩
  have HO4 := hide (ho4.mono HB3.out.size)
  have HB4 := hide (HB3.out.trans (hb4.mono HB3.out.size))
  clear ho4 hb4
  go_wp2
  go_ret2
  exact ⟨_, rfl, HO4.out, HB4.out⟩

end Go.Proofs.YtddhcohjmgdajaaDoor
