/- Contract of codec: PutOp. -/
import Derived.Test.YtddhcohjmgdajaaDoorCodecShelf
import Derived.Test.YtddhcohjmgdajaaDoorPack6
import Derived.Test.YtddhcohjmgdajaaDoorPack3
import Derived.Test.YtddhcohjmgdajaaDoorPack2
import Derived.Deep.RegionHeld
namespace Go.Proofs.YtddhcohjmgdajaaDoor
open Go.RowKit

/-- What is put: the bytes, and no error; or what was there, and ErrArg. -/
def PutR (w : World) (l : List UInt8) (o : Opn) (e : Ending) (w' : World) : Prop :=
  ∃ v', e = .returned (.tuple #[v', .int .i64 (if FitsO o then 0 else 1)]) ∧ Rd w' v' (if FitsO o then l ++ putOpL o else l) ∧ Below w.heap.size w w'

/-- The same, in a row of its own. -/
def PutO (w : World) (l : List UInt8) (o : Opn) (e : Ending) (w' : World) : Prop :=
  ∃ v', e = .returned (.tuple #[v', .int .i64 (if FitsO o then 0 else 1)]) ∧ Own w' w.heap.size v' (if FitsO o then l ++ putOpL o else l) ∧ Below w.heap.size w w'

set_option maxRecDepth 100000 in
set_option maxHeartbeats 2000000 in
theorem putOp_own (v : Value) (l : List UInt8) (o : Opn) (w : World) (hr : Rd w v l) (hlim : l.length ≤ 90000) :
    Calls Tryd.prog 96 #[v, opV o] w fun e w' => PutO w l o e w' := by
  obtain ⟨va, vc, rfl, hvr⟩ : ∃ va vc, v = .slice va l.length vc ∧ Rd w (.slice va l.length vc) l := by
    have h := hr
    obtain ⟨va, vc, rfl, _⟩ := hr
    exact ⟨va, vc, rfl, h⟩
  have HR := hide hr
  clear hvr
  have HF := hide (fun w => fits_any o w)
  have HB0 : Hid (∀ X, Below w.heap.size w (w.alloc X)) := fun X => (Below.refl _ _).alloc (Nat.le_refl _) X
  obtain ⟨code, a, b⟩ := o
  clear hr
  show Calls Tryd.prog _ #[_, .agg #[.int .i64 code, .int .i64 a, .int .i64 b]] w _
  have HF' : Hid (∀ W, Calls Tryd.prog 59 #[.agg #[.int .i64 code, .int .i64 a, .int .i64 b]] W fun e w' => e = .returned (.bool (decide (FitsO ⟨code, a, b⟩))) ∧ Below W.heap.size W w') := HF.out
  clear HF
  unfold PutO
  by_cases hf : FitsO ⟨code, a, b⟩
  · simp only [if_pos hf]
    have HT := hide (decide_eq_true hf)
    have HIA : Hid (I64 a) := (fits_i64 hf).1
    have HIB : Hid (I64 b) := (fits_i64 hf).2
    have hc0 : 0 ≤ code := hf.1
    have hc1 : code ≤ 10 := hf.2.1
    have hl1 := uv10' (n := code.toNat) (by omega)
    have hl2 := uv10 HIA.out
    have hl3 := uv10 HIB.out
    have HP : Hid (∀ W, Calls Tryd.prog 42 #[.slice none 0 0, .int .i64 code] W fun e w' => ∃ v', e = .returned v' ∧ Own w' W.heap.size v' (Lib.uvarint code.toNat) ∧ Below W.heap.size W w') := fun W => by
      have h := put_any (.slice none 0 0) [] code W (Rd.nil W) (by simp)
      rw [putOf_small hc0 (by omega), List.nil_append] at h
      exact h
    have HA : Hid (∀ W, Calls Tryd.prog 97 #[.slice none 0 0, .int .i64 a] W fun e w' => ∃ v', e = .returned v' ∧ Own w' W.heap.size v' (Lib.uvarint (Lib.zigzag a)) ∧ Below W.heap.size W w') := fun W => by
      have h := putSigned_any (.slice none 0 0) [] a W (Rd.nil W) (by simp) HIA.out.1 HIA.out.2
      rw [List.nil_append] at h
      exact h
    have HB : Hid (∀ W, Calls Tryd.prog 97 #[.slice none 0 0, .int .i64 b] W fun e w' => ∃ v', e = .returned v' ∧ Own w' W.heap.size v' (Lib.uvarint (Lib.zigzag b)) ∧ Below W.heap.size W w') := fun W => by
      have h := putSigned_any (.slice none 0 0) [] b W (Rd.nil W) (by simp) HIB.out.1 HIB.out.2
      rw [List.nil_append] at h
      exact h
    have HE : Hid (putOpL ⟨code, a, b⟩ = Lib.uvarint code.toNat ++ (Lib.uvarint (Lib.zigzag a) ++ Lib.uvarint (Lib.zigzag b))) := rfl
    rw [HE.out]
    have HCC : Hid (∀ W N v0 v1 v2 v3, N = W.heap.size → Rd W v0 l → Rd W v1 (Lib.uvarint code.toNat) → Rd W v2 (Lib.uvarint (Lib.zigzag a)) → Rd W v3 (Lib.uvarint (Lib.zigzag b)) → Calls Tryd.prog 76 #[.slice (some ⟨N, 0, none⟩) 4 4] (W.alloc (.cells #[v0, v1, v2, v3] 26)) fun e w' => ∃ v', e = .returned v' ∧ Own w' W.heap.size v' (l ++ (Lib.uvarint code.toNat ++ (Lib.uvarint (Lib.zigzag a) ++ Lib.uvarint (Lib.zigzag b)))) ∧ Below W.heap.size W w') := fun W N v0 v1 v2 v3 hN h0 h1 h2 h3 => concat4 W N hN v0 v1 v2 v3 _ _ _ _ h0 h1 h2 h3 (by omega)
    clear hf hl1 hl2 hl3 HE HIA HIB hc0 hc1
    generalize Lib.uvarint code.toNat = A at *
    generalize Lib.uvarint (Lib.zigzag a) = LA at *
    generalize Lib.uvarint (Lib.zigzag b) = LB at *
    generalize l ++ (A ++ (LA ++ LB)) = LL at *
    go_enter Tryd.func96, Tryd.ntmps96
    go_wp2_with fail
    refine (HF'.out _).mono ?_
    rintro e W1 ⟨rfl, hb1⟩
    rw [HT.out]
    have hx1 : Bo W1 w.heap.size _ := (hb1.block w.heap.size (by simp)).trans (heap_alloc_new w _)
    have HX1 := hide hx1
    have HB1 := hide ((HB0.out _).trans (hb1.mono (HB0.out _).size))
    obtain ⟨p0, -⟩ := hx1.cell 0
    obtain ⟨p1, -⟩ := hx1.cell 1
    obtain ⟨p2, -⟩ := hx1.cell 2
    have hsz1 := HB1.out.size
    clear hb1 hx1
    go_wp2
    go_region_held (fun w' => w'.cell? ⟨w.heap.size, 0, none⟩ = some (.int .i64 code) ∧ w'.cell? ⟨w.heap.size, 1, none⟩ = some (.int .i64 a) ∧ w'.cell? ⟨w.heap.size, 2, none⟩ = some (.int .i64 b)) (go_keep)
      (first
        | (go_at_call 42; refine (HP.out _).mono ?_; rintro e W2 ⟨v2, rfl, ho2, hb2⟩; have hx2 := HX1.out.below (((Below.refl _ _).drew).trans hb2) (Nat.le_refl _); have HX2 := hide hx2; have HB2 := hide (HB1.out.trans ((((Below.refl _ _).drew).trans hb2).mono HB1.out.size)); obtain ⟨a2, c2, rfl, -⟩ := ho2.rd; have HO2 := hide ho2.rd; obtain ⟨q0, -⟩ := hx2.cell 0; obtain ⟨q1, -⟩ := hx2.cell 1; obtain ⟨q2, -⟩ := hx2.cell 2; clear ho2 hb2 hx2)
        | (go_at_call_of 97 (Value.int .i64 a); refine (HA.out _).mono ?_; rintro e W3 ⟨v3, rfl, ho3, hb3⟩; have hx3 := HX2.out.below hb3 (Nat.le_refl _); have HX3 := hide hx3; have HB3 := hide (HB2.out.trans (hb3.mono HB2.out.size)); have HO23 := hide (HO2.out.below hb3 (Nat.le_refl _)); obtain ⟨a3, c3, rfl, -⟩ := ho3.rd; have HO3 := hide ho3.rd; obtain ⟨r0, -⟩ := hx3.cell 0; obtain ⟨r1, -⟩ := hx3.cell 1; obtain ⟨r2, -⟩ := hx3.cell 2; clear ho3 hb3 hx3)
        | (go_at_call_of 97 (Value.int .i64 b); refine (HB.out _).mono ?_; rintro e W4 ⟨v4, rfl, ho4, hb4⟩; have hx4 := HX3.out.below hb4 (Nat.le_refl _); have HX4 := hide hx4; have HB4 := hide (HB3.out.trans (hb4.mono HB3.out.size)); have HO24 := hide (HO23.out.below hb4 (Nat.le_refl _)); have HO34 := hide (HO3.out.below hb4 (Nat.le_refl _)); obtain ⟨a4, c4, rfl, -⟩ := ho4.rd; have HO4 := hide ho4.rd; obtain ⟨s0, -⟩ := hx4.cell 0; obtain ⟨s1, -⟩ := hx4.cell 1; obtain ⟨s2, -⟩ := hx4.cell 2; clear ho4 hb4 hx4)
        | (go_at_call 76; refine (HCC.out W4 W4.heap.size _ _ _ _ rfl (HR.out.below HB4.out (Nat.le_refl _)) HO24.out HO34.out HO4.out).mono ?_; rintro e W5 ⟨v5, rfl, ho5, hb5⟩; have hx5 := HX4.out.below hb5 (Nat.le_refl _); have HB5 := hide (HB4.out.trans (hb5.mono HB4.out.size)); have HO5 := hide (ho5.mono HB4.out.size); obtain ⟨t0, -⟩ := hx5.cell 0; obtain ⟨t1, -⟩ := hx5.cell 1; obtain ⟨t2, -⟩ := hx5.cell 2; clear ho5 hb5 hx5))
    all_goals
      go_wp2
      go_ret2
      exact ⟨_, rfl, HO5.out, HB5.out⟩
  · simp only [if_neg hf]
    have HT := hide (decide_eq_false hf)
    have HCL := hide (fun W h => cloneB_any (.slice va l.length vc) l W h (by omega))
    clear hf
    go_enter Tryd.func96, Tryd.ntmps96
    go_wp2_with fail
    refine (HF'.out _).mono ?_
    rintro e W2 ⟨rfl, hb2⟩
    rw [HT.out]
    have HB2 := hide ((HB0.out _).trans (hb2.mono (HB0.out _).size))
    clear hb2
    go_wp2_with fail
    refine (HCL.out _ (HR.out.below HB2.out (Nat.le_refl _))).mono ?_
    rintro e W3 ⟨v3, rfl, ho3, hb3⟩
    have HO3 := hide (ho3.mono HB2.out.size)
    have HB3 := hide (HB2.out.trans (hb3.mono HB2.out.size))
    clear ho3 hb3
    go_wp2
    go_ret2
    exact ⟨_, rfl, HO3.out, HB3.out⟩

theorem putOp_any (v : Value) (l : List UInt8) (o : Opn) (w : World) (hr : Rd w v l) (hlim : l.length ≤ 90000) :
    Calls Tryd.prog 96 #[v, opV o] w fun e w' => PutR w l o e w' :=
  (putOp_own v l o w hr hlim).mono fun _ _ ⟨v', h1, h2, h3⟩ => ⟨v', h1, h2.rd, h3⟩

end Go.Proofs.YtddhcohjmgdajaaDoor
