/- Contracts of block: recordBytes, Encode. -/
import Derived.Test.YtddhcohjmgdajaaDoorPack4
import Derived.Test.YtddhcohjmgdajaaDoorBlockFits
import Derived.Test.YtddhcohjmgdajaaDoorCodecPut
import Derived.Test.YtddhcohjmgdajaaDoorMapInt
import Derived.Test.YtddhcohjmgdajaaDoorPack3
namespace Go.Proofs.YtddhcohjmgdajaaDoor
open Go.RowKit

theorem concat2 (W : World) (N : Nat) (hN : N = W.heap.size) (v0 v1 : Value) (l0 l1 : List UInt8) (h0 : Rd W v0 l0) (h1 : Rd W v1 l1) (hlim : l0.length + l1.length ≤ 1000000) :
    Calls Tryd.prog 76 #[.slice (some ⟨N, 0, none⟩) 2 2] (W.alloc (.cells #[v0, v1] 26)) fun e w' => ∃ v', e = .returned v' ∧ Own w' W.heap.size v' (l0 ++ l1) ∧ Below W.heap.size W w' := by
  have hr := RdL.built W N hN #[v0, v1] [l0, l1] (by simp) (fun j hj => by
    match j, hj with
    | 0, _ => exact ⟨v0, rfl, h0⟩
    | 1, _ => exact ⟨v1, rfl, h1⟩)
  have ef : [l0, l1].flatten = l0 ++ l1 := by simp
  refine (concat_any _ _ _ hr (by rw [ef]; simp only [List.length_append]; omega) (by simp)).mono ?_
  rintro e w' ⟨v', rfl, ho, hb⟩
  rw [ef] at ho
  exact ⟨v', rfl, ho.mono (by simp), ((Below.refl _ _).alloc (Nat.le_refl _) _).trans (hb.mono (by simp))⟩

set_option maxRecDepth 100000 in
set_option maxHeartbeats 4000000 in
theorem recordBytes_any (r : Rec) (d : Int) (w : World) (hr : FitsR r) (hd : I64 d) :
    Calls Tryd.prog 77 #[recV r, .int .i64 d] w fun e w' => ∃ v', e = .returned v' ∧ Own w' w.heap.size v' (Lib.uvarint r.proc.toNat ++ (Lib.uvarint (Lib.zigzag d) ++ (putOpL r.op ++ Lib.uvarint (Lib.zigzag r.resp)))) ∧ Below w.heap.size w w' := by
  have HB0 : Hid (∀ X, Below w.heap.size w (w.alloc X)) := fun X => (Below.refl _ _).alloc (Nat.le_refl _) X
  have X1 : Hid (∀ cs, Br (w.alloc (.cells cs 48)) w.heap.size cs) := fun cs => heap_alloc_new w _
  have HO0 := hide (fun W => putOp_own (.slice none 0 0) [] r.op W (Rd.nil W) (by simp))
  unfold PutO at HO0
  rw [if_pos hr.1, if_pos hr.1, List.nil_append] at HO0
  have HRI := hide (fitsR_resp hr)
  have hl3 := putOpL_len30 hr.1
  obtain ⟨_, _, _, _, _, hp0, hp1, _⟩ := hr
  have hl1 := uv10' (n := r.proc.toNat) (by omega)
  have hl2 := uv10 hd
  have hl4 := uv10 HRI.out
  have HP : Hid (∀ W, Calls Tryd.prog 42 #[.slice none 0 0, .int .i64 r.proc] W fun e w' => ∃ v', e = .returned v' ∧ Own w' W.heap.size v' (Lib.uvarint r.proc.toNat) ∧ Below W.heap.size W w') := fun W => by
    have h := put_any (.slice none 0 0) [] r.proc W (Rd.nil W) (by simp)
    rw [putOf_small hp0 (by omega), List.nil_append] at h
    exact h
  have HA : Hid (∀ W, Calls Tryd.prog 97 #[.slice none 0 0, .int .i64 d] W fun e w' => ∃ v', e = .returned v' ∧ Own w' W.heap.size v' (Lib.uvarint (Lib.zigzag d)) ∧ Below W.heap.size W w') := fun W => by
    have h := putSigned_any (.slice none 0 0) [] d W (Rd.nil W) (by simp) hd.1 hd.2
    rw [List.nil_append] at h
    exact h
  have HB : Hid (∀ W, Calls Tryd.prog 97 #[.slice none 0 0, .int .i64 r.resp] W fun e w' => ∃ v', e = .returned v' ∧ Own w' W.heap.size v' (Lib.uvarint (Lib.zigzag r.resp)) ∧ Below W.heap.size W w') := fun W => by
    have h := putSigned_any (.slice none 0 0) [] r.resp W (Rd.nil W) (by simp) HRI.out.1 HRI.out.2
    rw [List.nil_append] at h
    exact h
  have HCC : Hid (∀ W N v0 v1 v2 v3, N = W.heap.size → Rd W v0 (Lib.uvarint r.proc.toNat) → Rd W v1 (Lib.uvarint (Lib.zigzag d)) → Rd W v2 (putOpL r.op) → Rd W v3 (Lib.uvarint (Lib.zigzag r.resp)) → Calls Tryd.prog 76 #[.slice (some ⟨N, 0, none⟩) 4 4] (W.alloc (.cells #[v0, v1, v2, v3] 26)) fun e w' => ∃ v', e = .returned v' ∧ Own w' W.heap.size v' (Lib.uvarint r.proc.toNat ++ (Lib.uvarint (Lib.zigzag d) ++ (putOpL r.op ++ Lib.uvarint (Lib.zigzag r.resp)))) ∧ Below W.heap.size W w') := fun W N v0 v1 v2 v3 hN h0 h1 h2 h3 => concat4 W N hN v0 v1 v2 v3 _ _ _ _ h0 h1 h2 h3 (by omega)
  clear hl1 hl2 hl3 hl4 HRI hp0 hp1 hd
  unfold opV at HO0
  obtain ⟨idx, proc, seq, ⟨code, a, b⟩, resp⟩ := r
  show Calls Tryd.prog _ #[.agg #[.int .i64 idx, .int .i64 proc, .int .i64 seq, .int .i64 code, .int .i64 a, .int .i64 b, .int .i64 resp], .int .i64 d] w _
  dsimp only at *
  generalize Lib.uvarint proc.toNat = A at *
  generalize Lib.uvarint (Lib.zigzag d) = LA at *
  generalize Lib.uvarint (Lib.zigzag resp) = LB at *
  generalize putOpL ⟨code, a, b⟩ = LO at *
  generalize A ++ (LA ++ (LO ++ LB)) = LL at *
  go_enter Tryd.func77, Tryd.ntmps77
  go_wp2_with fail
  refine (HO0.out _).mono ?_
  rintro e W1 ⟨v1, rfl, ho1, hb1⟩
  have hx1 : Br W1 w.heap.size _ := (X1.out _).below hb1 (Nat.le_refl _)
  have HX1 := hide hx1
  have HB1 := hide ((HB0.out _).trans (hb1.mono (HB0.out _).size))
  have HOP := hide ho1.rd
  obtain ⟨a1, c1, rfl, -⟩ := ho1.rd
  obtain ⟨p1, -⟩ := hx1.cell 1
  obtain ⟨p6, -⟩ := hx1.cell 6
  have hsz1 := HB1.out.size
  clear hb1 hx1 ho1 HO0
  go_wp2
  go_region_held (fun w' => w'.cell? ⟨w.heap.size, 1, none⟩ = some (.int .i64 proc) ∧ w'.cell? ⟨w.heap.size, 6, none⟩ = some (.int .i64 resp)) (go_keep)
    (first
      | (go_at_call 42; refine (HP.out _).mono ?_; rintro e W2 ⟨v2, rfl, ho2, hb2⟩; have hx2 := HX1.out.below (((Below.refl _ _).drew).trans hb2) (Nat.le_refl _); have HX2 := hide hx2; have HB2 := hide (HB1.out.trans ((((Below.refl _ _).drew).trans hb2).mono HB1.out.size)); have HOP2 := hide (HOP.out.below (((Below.refl _ _).drew).trans hb2) (Nat.le_refl _)); obtain ⟨a2, c2, rfl, -⟩ := ho2.rd; have HO2 := hide ho2.rd; obtain ⟨q1, -⟩ := hx2.cell 1; obtain ⟨q6, -⟩ := hx2.cell 6; clear ho2 hb2 hx2)
      | (go_at_call_of 97 (Value.int .i64 d); refine (HA.out _).mono ?_; rintro e W3 ⟨v3, rfl, ho3, hb3⟩; have hx3 := HX2.out.below hb3 (Nat.le_refl _); have HX3 := hide hx3; have HB3 := hide (HB2.out.trans (hb3.mono HB2.out.size)); have HO23 := hide (HO2.out.below hb3 (Nat.le_refl _)); have HOP3 := hide (HOP2.out.below hb3 (Nat.le_refl _)); obtain ⟨a3, c3, rfl, -⟩ := ho3.rd; have HO3 := hide ho3.rd; obtain ⟨r1, -⟩ := hx3.cell 1; obtain ⟨r6, -⟩ := hx3.cell 6; clear ho3 hb3 hx3)
      | (go_at_call_of 97 (Value.int .i64 resp); refine (HB.out _).mono ?_; rintro e W4 ⟨v4, rfl, ho4, hb4⟩; have hx4 := HX3.out.below hb4 (Nat.le_refl _); have HX4 := hide hx4; have HB4 := hide (HB3.out.trans (hb4.mono HB3.out.size)); have HO24 := hide (HO23.out.below hb4 (Nat.le_refl _)); have HO34 := hide (HO3.out.below hb4 (Nat.le_refl _)); have HOP4 := hide (HOP3.out.below hb4 (Nat.le_refl _)); obtain ⟨a4, c4, rfl, -⟩ := ho4.rd; have HO4 := hide ho4.rd; obtain ⟨s1, -⟩ := hx4.cell 1; obtain ⟨s6, -⟩ := hx4.cell 6; clear ho4 hb4 hx4)
      | (go_at_call 76; refine (HCC.out W4 W4.heap.size _ _ _ _ rfl HO24.out HO34.out HOP4.out HO4.out).mono ?_; rintro e W5 ⟨v5, rfl, ho5, hb5⟩; have hx5 := HX4.out.below hb5 (Nat.le_refl _); have HB5 := hide (HB4.out.trans (hb5.mono HB4.out.size)); have HO5 := hide (ho5.mono HB4.out.size); obtain ⟨t1, -⟩ := hx5.cell 1; obtain ⟨t6, -⟩ := hx5.cell 6; clear ho5 hb5 hx5))
  all_goals
    go_wp2
    go_ret
    exact ⟨_, rfl, HO5.out, HB5.out⟩

end Go.Proofs.YtddhcohjmgdajaaDoor
