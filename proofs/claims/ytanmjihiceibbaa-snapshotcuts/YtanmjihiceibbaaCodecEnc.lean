/- Contract of codec: EncodeState. -/
import Derived.Test.YtanmjihiceibbaaCodecShelf
import Derived.Test.YtanmjihiceibbaaObjsMayC
import Derived.Test.YtanmjihiceibbaaRef05B
import Derived.Test.YtanmjihiceibbaaPack2
import Derived.Deep.RegionHeld
namespace Go.Proofs.Ytanmjihiceibbaa
open Go.RowKit

/-- What is encoded: the bytes, or none and ErrArg. -/
def EncR (w : World) (s : St) (e : Ending) (w' : World) : Prop :=
  ∃ v', e = .returned (.tuple #[v', .int .i64 (if MayS s then 0 else 1)]) ∧ Rd w' v' (if MayS s then encS s else []) ∧ Below w.heap.size w w'

set_option maxRecDepth 100000 in
theorem sealNumber_any (kind : Int) (ao : Option Addr) (n cap : Nat) (shut : Bool) (g : Int) (w : World) (h0 : 0 ≤ g) (h1 : g ≤ 2) :
    Calls Try.prog 88 #[.agg #[.int .i64 kind, .slice ao n cap, .bool shut, .int .i64 g]] w fun e w' => e = .returned (.int .i64 ((sealN ⟨0, [], shut, g⟩ : Nat) : Int)) ∧ Below w.heap.size w w' := by
  have HB0 : Hid (∀ X, Below w.heap.size w (w.alloc X)) := fun X => (Below.refl _ _).alloc (Nat.le_refl _) X
  have HS := hide (seal_int shut g h0)
  generalize sealN ⟨0, [], shut, g⟩ = m at *
  cases shut
  · go_enter Try.func88, Try.ntmps88
    go_wp2
    go_ret
    refine ⟨?_, HB0.out _⟩
    rw [← HS.out]
    rfl
  · go_enter Try.func88, Try.ntmps88
    go_wp2
    go_ret
    refine ⟨?_, HB0.out _⟩
    rw [← HS.out]
    rfl

set_option maxRecDepth 100000 in
set_option maxHeartbeats 2000000 in
theorem encodeState_any (v : Value) (s : St) (w : World) (hs : StV w v s) (hlim : s.L.length ≤ 1000) :
    Calls Try.prog 53 #[v] w fun e w' => EncR w s e w' := by
  obtain ⟨vl, rfl, hr, hki, hei⟩ := hs
  obtain ⟨kind, l, shut, g⟩ := s
  simp only at hr hki hei hlim ⊢
  have HMAY : Hid (∀ W, Below w.heap.size w W → Calls Try.prog 31 #[.agg #[.int .i64 kind, vl, .bool shut, .int .i64 g]] W fun e w' => e = .returned (.bool (decide (MayS ⟨kind, l, shut, g⟩))) ∧ Below W.heap.size W w') := fun W h => may_any _ ⟨kind, l, shut, g⟩ W ⟨vl, rfl, hr.below h (Nat.le_refl _), hki, hei⟩
  have HB0 : Hid (∀ X, Below w.heap.size w (w.alloc X)) := fun X => (Below.refl _ _).alloc (Nat.le_refl _) X
  have HRD := hide hr
  obtain ⟨ao, cap, rfl, -, -, -, hi, hao⟩ := hr
  have HAO := hide hao
  clear hao hki hei
  unfold EncR
  by_cases hm : MayS ⟨kind, l, shut, g⟩
  · simp only [if_pos hm]
    have HT := hide (decide_eq_true hm)
    have hk0 : 0 ≤ kind := hm.2.2.2.1
    have hk6 : kind < 6 := hm.2.2.2.2.1
    have hg0 : 0 ≤ g := hm.1
    have hg2 : g ≤ 2 := hm.2.1
    have hsl := sealN_le hm
    rw [sealN_any] at hsl
    have HI := hide hi
    have u1 := uv10' (n := kind.toNat) (by omega)
    have u2 := uv10' (n := sealN ⟨0, [], shut, g⟩) (by omega)
    have u3 := uv10' (n := l.length) (by omega)
    have HPut : Hid (∀ (n : Int), 0 ≤ n → n < 4611686018427387904 → ∀ W, Calls Try.prog 55 #[.slice none 0 0, .int .i64 n] W fun e w' => ∃ v', e = .returned v' ∧ Own w' W.heap.size v' (Lib.uvarint n.toNat) ∧ Below W.heap.size W w') := fun n h0 h1 W => by
      have h := put_any (.slice none 0 0) [] n W (Rd.nil W) (by simp)
      rw [putOf_small h0 h1, List.nil_append] at h
      exact h
    have HP1 := hide (HPut.out kind hk0 (by omega))
    have HP2 := hide (HPut.out ((sealN ⟨0, [], shut, g⟩ : Nat) : Int) (by omega) (by omega))
    have HP3 := hide (HPut.out (l.length : Int) (by omega) (by omega))
    rw [Int.toNat_natCast] at HP2 HP3
    have HSN := hide (fun W => sealNumber_any kind ao l.length cap shut g W hg0 hg2)
    have HPS : Hid (∀ x, I64 x → ∀ W, Calls Try.prog 56 #[.slice none 0 0, .int .i64 x] W fun e w' => ∃ v', e = .returned v' ∧ Own w' W.heap.size v' (Lib.uvarint (Lib.zigzag x)) ∧ Below W.heap.size W w') := fun x hx W => by
      have h := putSigned_any (.slice none 0 0) [] x W (Rd.nil W) (by simp) hx.1 hx.2
      rw [List.nil_append] at h
      exact h
    have HES : Hid (encS ⟨kind, l, shut, g⟩ = (Lib.uvarint kind.toNat ++ (Lib.uvarint (sealN ⟨0, [], shut, g⟩) ++ Lib.uvarint l.length)) ++ numsL l) := by
      refine hide ?_
      rw [encS_head]
      unfold headSt
      rw [sealN_any]
      simp only [List.append_assoc]
    have HNL : Hid (∀ k, (numsL (l.take k)).length ≤ 10 * 1000) := fun k => by
      have h1 := numsL_length (l.take k) (fun x hx => hi x (List.mem_of_mem_take hx))
      have h2 : (l.take k).length ≤ l.length := by simp; omega
      omega
    have HCC : Hid (∀ W N v0 v1 v2, N = W.heap.size → Rd W v0 (Lib.uvarint kind.toNat) → Rd W v1 (Lib.uvarint (sealN ⟨0, [], shut, g⟩)) → Rd W v2 (Lib.uvarint l.length) → Calls Try.prog 54 #[.slice (some ⟨N, 0, none⟩) 3 3] (W.alloc (.cells #[v0, v1, v2] 30)) fun e w' => ∃ v', e = .returned v' ∧ Own w' W.heap.size v' (Lib.uvarint kind.toNat ++ (Lib.uvarint (sealN ⟨0, [], shut, g⟩) ++ Lib.uvarint l.length)) ∧ Below W.heap.size W w') := fun W N v0 v1 v2 hN h0 h1 h2 => concat3 W N hN v0 v1 v2 _ _ _ h0 h1 h2 (by omega)
    rw [HES.out]
    have hHl : (Lib.uvarint kind.toNat ++ (Lib.uvarint (sealN ⟨0, [], shut, g⟩) ++ Lib.uvarint l.length)).length ≤ 30 := by
      simp only [List.length_append]
      omega
    clear hm hi HES HPut u1 u2 u3
    generalize sealN ⟨0, [], shut, g⟩ = m at *
    generalize Lib.uvarint kind.toNat = A at *
    generalize Lib.uvarint m = B at *
    generalize Lib.uvarint l.length = C at *
    generalize A ++ (B ++ C) = H at *
    go_enter Try.func53, Try.ntmps53
    go_wp2_with fail
    refine (HMAY.out _ (HB0.out _)).mono ?_
    rintro e W1 ⟨rfl, hb1⟩
    rw [HT.out]
    have hx1 : Bx W1 w.heap.size _ := (hb1.block w.heap.size (by simp)).trans (heap_alloc_new w _)
    have HX1 := hide hx1
    have HB1 := hide ((HB0.out _).trans (hb1.mono (HB0.out _).size))
    obtain ⟨p0, -⟩ := hx1.cell 0
    obtain ⟨p1, -⟩ := hx1.cell 1
    obtain ⟨p2, -⟩ := hx1.cell 2
    obtain ⟨p3, -⟩ := hx1.cell 3
    clear hb1 hx1
    go_wp2
    go_region_held (fun w' => w'.cell? ⟨w.heap.size, 0, none⟩ = some (.int .i64 kind) ∧ w'.cell? ⟨w.heap.size, 1, none⟩ = some (.slice ao l.length cap) ∧ w'.cell? ⟨w.heap.size, 2, none⟩ = some (.bool shut) ∧ w'.cell? ⟨w.heap.size, 3, none⟩ = some (.int .i64 g)) (go_keep)
      (first
        | (go_at_call_of 55 (Value.int .i64 kind); refine (HP1.out _).mono ?_; rintro e W2 ⟨v2, rfl, ho2, hb2⟩; have hx2 := HX1.out.below (((Below.refl _ _).drew).trans hb2) (Nat.le_refl _); have HX2 := hide hx2; have HB2 := hide (HB1.out.trans ((((Below.refl _ _).drew).trans hb2).mono HB1.out.size)); obtain ⟨a2, c2, rfl, -⟩ := ho2.rd; have HO2 := hide ho2.rd; obtain ⟨q0, -⟩ := hx2.cell 0; obtain ⟨q1, -⟩ := hx2.cell 1; obtain ⟨q2, -⟩ := hx2.cell 2; obtain ⟨q3, -⟩ := hx2.cell 3; clear ho2 hb2 hx2)
        | (go_at_call 88; refine (HSN.out _).mono ?_; rintro e W3 ⟨rfl, hb3⟩; have hx3 := HX2.out.below hb3 (Nat.le_refl _); have HX3 := hide hx3; have HB3 := hide (HB2.out.trans (hb3.mono HB2.out.size)); have HO23 := hide (HO2.out.below hb3 (Nat.le_refl _)); obtain ⟨r0, -⟩ := hx3.cell 0; obtain ⟨r1, -⟩ := hx3.cell 1; obtain ⟨r2, -⟩ := hx3.cell 2; obtain ⟨r3, -⟩ := hx3.cell 3; clear hb3 hx3)
        | (go_at_call_of 55 (Value.int .i64 (m : Int)); refine (HP2.out _).mono ?_; rintro e W4 ⟨v4, rfl, ho4, hb4⟩; have hx4 := HX3.out.below hb4 (Nat.le_refl _); have HX4 := hide hx4; have HB4 := hide (HB3.out.trans (hb4.mono HB3.out.size)); have HO24 := hide (HO23.out.below hb4 (Nat.le_refl _)); obtain ⟨a4, c4, rfl, -⟩ := ho4.rd; have HO4 := hide ho4.rd; obtain ⟨s0, -⟩ := hx4.cell 0; obtain ⟨s1, -⟩ := hx4.cell 1; obtain ⟨s2, -⟩ := hx4.cell 2; obtain ⟨s3, -⟩ := hx4.cell 3; clear ho4 hb4 hx4)
        | (go_at_call_of 55 (Value.int .i64 (l.length : Int)); refine (HP3.out _).mono ?_; rintro e W5 ⟨v5, rfl, ho5, hb5⟩; have hx5 := HX4.out.below hb5 (Nat.le_refl _); have HX5 := hide hx5; have HB5 := hide (HB4.out.trans (hb5.mono HB4.out.size)); have HO25 := hide (HO24.out.below hb5 (Nat.le_refl _)); have HO45 := hide (HO4.out.below hb5 (Nat.le_refl _)); obtain ⟨a5, c5, rfl, -⟩ := ho5.rd; have HO5 := hide ho5.rd; obtain ⟨t0, -⟩ := hx5.cell 0; obtain ⟨t1, -⟩ := hx5.cell 1; obtain ⟨t2, -⟩ := hx5.cell 2; obtain ⟨t3, -⟩ := hx5.cell 3; clear ho5 hb5 hx5)
        | (go_at_call 54; refine (HCC.out W5 W5.heap.size _ _ _ rfl HO25.out HO45.out HO5.out).mono ?_; rintro e W6 ⟨v6, rfl, ho6, hb6⟩; have hx6 := HX5.out.below hb6 (Nat.le_refl _); have HX6 := hide hx6; have HO6 := hide (ho6.mono HB5.out.size); have HB6 := hide (HB5.out.trans (hb6.mono HB5.out.size)); obtain ⟨y0, -⟩ := hx6.cell 0; obtain ⟨y1, -⟩ := hx6.cell 1; obtain ⟨y2, -⟩ := hx6.cell 2; obtain ⟨y3, -⟩ := hx6.cell 3; clear ho6 hb6 hx6))
    clear p0 p1 p2 p3 q0 q1 q2 q3 r0 r1 r2 r3 s0 s1 s2 s3 t0 t1 t2 t3 HX1 HX2 HX3 HX4 HX5 HB1 HB2 HB3 HB4 HB5 HO2 HO23 HO24 HO25 HO4 HO45 HO5 HP1 HP2 HP3 HSN HCC HMAY
    go_wp2
    go_loopw [4, 25] (fun vo i wr => ∃ k : Nat, i = .int .i64 k ∧ k ≤ l.length ∧ Hid (Own wr w.heap.size vo (H ++ numsL (l.take k))) ∧ Hid (Below w.heap.size w wr)) (fun _ i _ => l.length - (intOf i).toNat)
    case atStart => exact ⟨0, rfl, Nat.zero_le _, by simpa [numsL] using HO6, HB6⟩
    case round =>
      clear y0 y1 y2 y3 HX6 HO6 HB6
      obtain ⟨k, rfl, hk, hown, hbel⟩ := hrel
      by_cases hlt : k < l.length
      · rcases HAO.out with h0 | ⟨c, off, rfl, hc⟩
        · rw [h0] at hlt; simp at hlt
        have hck : wr.cell? ⟨c, off + k, none⟩ = some (.int .i64 (l.getD k 0)) := (hbel.out.cell (World.block_lt_of_cell? w ⟨c, off + k, none⟩ (hc k hlt))).trans (hc k hlt)
        have HIK : Hid (I64 (l.getD k 0)) := getD_i64 HI.out k
        have HPK := hide (HPS.out (l.getD k 0) HIK.out)
        have HLK : Hid ((H ++ numsL (l.take k)).length + (Lib.uvarint (Lib.zigzag (l.getD k 0))).length ≤ 70368744177664) := by
          refine hide ?_
          have := HNL.out k
          have := uv10 HIK.out
          rw [List.length_append]
          omega
        have HSN : Hid ((H ++ numsL (l.take k)) ++ Lib.uvarint (Lib.zigzag (l.getD k 0)) = H ++ numsL (l.take (k + 1))) := by
          refine hide ?_
          rw [numsL_snoc l k hlt, List.append_assoc]
        clear hc
        generalize l.getD k 0 = y at *
        generalize H ++ numsL (l.take k) = P at *
        generalize Lib.uvarint (Lib.zigzag y) = D at *
        go_wp2_with fail
        refine (HPK.out _).mono ?_
        rintro e W7 ⟨v7, rfl, ho7, hb7⟩
        have HO7 := hide ho7.rd
        have HOW := hide (hown.out.below hb7 (Nat.le_refl _))
        have HB7 := hide (hbel.out.trans (hb7.mono hbel.out.size))
        have HSZ := hide HB7.out.size
        clear ho7 hb7
        go_wp2_with (at_builtin; refine wpList_append_rd _ rfl _ _ rfl w.heap.size _ P rfl HOW.out _ D rfl HO7.out HLK.out HSZ.out ?_)
        intro v8 W8 ho8 hb8
        rw [HSN.out] at ho8
        have HO8 := hide ho8
        have HB8 := hide (HB7.out.trans hb8)
        clear ho8 hb8
        go_wp2
        go_roundw
        case rel => exact ⟨k + 1, by go_num, by omega, HO8, HB8⟩
        case measure => simp [intOf]; omega
      · have hke : l.take k = l := List.take_of_length_le (by omega)
        rw [hke] at hown
        clear hke
        go_wp2
        go_ret2
        exact ⟨_, rfl, hown.out.rd, hbel.out⟩
  · simp only [if_neg hm]
    have HT := hide (decide_eq_false hm)
    clear hm
    go_enter Try.func53, Try.ntmps53
    go_wp2_with fail
    refine (HMAY.out _ (HB0.out _)).mono ?_
    rintro e W1 ⟨rfl, hb1⟩
    rw [HT.out]
    have HB1 := hide ((HB0.out _).trans (hb1.mono (HB0.out _).size))
    clear hb1
    go_wp2
    go_ret2
    exact ⟨_, rfl, Rd.nil _, HB1.out⟩

end Go.Proofs.Ytanmjihiceibbaa
