/- Contracts of ferrymanref05: PutOp, GetOp. -/
import Derived.Test.YtgmdhlchdjlgnaaCodecPlain
import Derived.Test.YtgmdhlchdjlgnaaRef01Put
import Derived.Test.YtgmdhlchdjlgnaaFrameBase
import Derived.Test.YtgmdhlchdjlgnaaRefFits
namespace Go.Proofs.Ytgmdhlchdjlgnaa
open Go.RowKit

/-- What is put: the bytes, and no error; or what was there, and ErrArg. -/
def Putted (w : World) (l : List UInt8) (o : Opn) (e : Ending) (w' : World) : Prop :=
  ∃ v', e = .returned (.tuple #[v', .int .i64 (if FitsO o then 0 else 1)]) ∧ Own w' w.heap.size v' (if FitsO o then l ++ putOpL o else l) ∧ Below w.heap.size w w'

theorem putOf_small {l : List UInt8} {n : Int} (h0 : 0 ≤ n) (h1 : n < 4611686018427387904) : putOf l n = l ++ Lib.uvarint n.toNat := if_pos ⟨h0, h1⟩

theorem uv10 {n : Int} (h : I64 n) : (Lib.uvarint (Lib.zigzag n)).length ≤ 10 := Lib.uvarint_length64 (zig_lt h)

theorem uv10' {n : Nat} (h : n < 4611686018427387904) : (Lib.uvarint n).length ≤ 10 := Lib.uvarint_length64 (by omega)

set_option maxRecDepth 100000 in
set_option maxHeartbeats 1000000 in
theorem refPutOp_any (v : Value) (l : List UInt8) (o : Opn) (w : World) (hr : Rd w v l) (hlim : l.length ≤ 90000) :
    Calls Try.prog 23 #[v, opV o] w fun e w' => Putted w l o e w' := by
  have HR := hide hr
  have HF := hide (fun w => refFits_any o w)
  have HP := hide (fun v l n w h hl => refPut_any v l n w h hl)
  have HS := hide (fun v l n w h hl (hi : I64 n) => refPutSigned_any v l n w h hl hi.1 hi.2)
  have HB0 : Hid (∀ X, Below w.heap.size w (w.alloc X)) := fun X => (Below.refl _ _).alloc (Nat.le_refl _) X
  obtain ⟨code, a, b⟩ := o
  clear hr
  show Calls Try.prog _ #[_, .agg #[.int .i64 code, .int .i64 a, .int .i64 b]] w _
  have HF' : Hid (∀ W, Calls Try.prog 38 #[.agg #[.int .i64 code, .int .i64 a, .int .i64 b]] W fun e w' => e = .returned (.bool (decide (FitsO ⟨code, a, b⟩))) ∧ Below W.heap.size W w') := HF.out
  clear HF
  unfold Putted
  by_cases hf : FitsO ⟨code, a, b⟩
  · simp only [if_pos hf]
    have HT := hide (decide_eq_true hf)
    have HIA : Hid (I64 a) := (fits_i64 hf).1
    have HIB : Hid (I64 b) := (fits_i64 hf).2
    have hc0 : 0 ≤ code := hf.1
    have hc1 : code ≤ 10 := hf.2.1
    have HE : Hid (l ++ putOpL ⟨code, a, b⟩ = ((l ++ Lib.uvarint code.toNat) ++ Lib.uvarint (Lib.zigzag a)) ++ Lib.uvarint (Lib.zigzag b)) := by
      refine hide ?_
      unfold putOpL
      simp [List.append_assoc]
    have hl1 := uv10' (n := code.toNat) (by omega)
    have hl2 := uv10 HIA.out
    have HL1 : Hid ((l ++ Lib.uvarint code.toNat).length ≤ 100000) := by
      refine hide ?_
      rw [List.length_append]
      omega
    have HL2 : Hid (((l ++ Lib.uvarint code.toNat) ++ Lib.uvarint (Lib.zigzag a)).length ≤ 100000) := by
      refine hide ?_
      rw [List.length_append, List.length_append]
      omega
    have HPC : Hid (putOf l code = l ++ Lib.uvarint code.toNat) := putOf_small hc0 (by omega)
    rw [HE.out]
    clear hf hl1 hl2 HE
    generalize hA : l ++ Lib.uvarint code.toNat = A at *
    generalize hAB : A ++ Lib.uvarint (Lib.zigzag a) = AB at *
    have HAB := hide hAB
    clear hA hAB
    go_enter Try.func23, Try.ntmps23
    go_wp2_with (at_builtin; refine wpList_append_rd _ rfl _ _ rfl (w.heap.size + 1) _ [] rfl (Own.nil _ _) _ l rfl (HR.out.below (HB0.out _) (Nat.le_refl _)) (by simp; omega) (by simp) ?_)
    intro v1 W1 ho1 hb1
    have hx1 := (hb1.block w.heap.size (by omega)).trans (heap_alloc_new w _)
    have HX1 := hide hx1
    have HB1 := hide ((HB0.out _).trans (hb1.mono (by omega)))
    have HO1 := hide ho1
    have p0 := cell_of_row W1 w.heap.size 0 _ _ _ hx1
    have p1 := cell_of_row W1 w.heap.size 1 _ _ _ hx1
    have p2 := cell_of_row W1 w.heap.size 2 _ _ _ hx1
    clear ho1 hb1 hx1
    go_wp2_with fail
    refine (HF'.out _).mono ?_
    rintro e W2 ⟨rfl, hb2⟩
    rw [HT.out]
    have hx2 := (hb2.block w.heap.size (Array.getElem?_eq_some_iff.1 HX1.out).1).trans HX1.out
    have HX2 := hide hx2
    have HB2 := hide (HB1.out.trans (hb2.mono HB1.out.size))
    have HO2 := hide (HO1.out.below hb2 (Nat.le_refl _))
    have q0 := cell_of_row W2 w.heap.size 0 _ _ _ hx2
    clear hb2 hx2 HX1 HB1 HO1 p0 p1 p2
    go_wp2_with fail
    refine (HP.out _ _ _ _ HO2.out.rd (by omega)).mono ?_
    rintro e W3 ⟨v3, rfl, ho3, hb3⟩
    rw [HPC.out] at ho3
    have hx3 := (hb3.block w.heap.size (Array.getElem?_eq_some_iff.1 HX2.out).1).trans HX2.out
    have HX3 := hide hx3
    have HB3 := hide (HB2.out.trans (hb3.mono HB2.out.size))
    have HO3 := hide ho3
    have q1 := cell_of_row W3 w.heap.size 1 _ _ _ hx3
    clear ho3 hb3 hx3 HX2 HB2 HO2 q0
    go_wp2_with fail
    refine (HS.out _ _ _ _ HO3.out.rd HL1.out HIA.out).mono ?_
    rintro e W4 ⟨v4, rfl, ho4, hb4⟩
    rw [HAB.out] at ho4
    have hx4 := (hb4.block w.heap.size (Array.getElem?_eq_some_iff.1 HX3.out).1).trans HX3.out
    have HB4 := hide (HB3.out.trans (hb4.mono HB3.out.size))
    have HO4 := hide ho4
    have q2 := cell_of_row W4 w.heap.size 2 _ _ _ hx4
    clear ho4 hb4 hx4 HX3 HB3 HO3 q1
    go_wp2_with fail
    refine (HS.out _ _ _ _ HO4.out.rd HL2.out HIB.out).mono ?_
    rintro e W5 ⟨v5, rfl, ho5, hb5⟩
    have HB5 := hide (HB4.out.trans (hb5.mono HB4.out.size))
    have HO5 := hide (ho5.mono HB4.out.size)
    clear ho5 hb5
    go_wp2
    go_ret2
    exact ⟨_, rfl, HO5.out, HB5.out⟩
  · simp only [if_neg hf]
    have HT := hide (decide_eq_false hf)
    clear hf
    go_enter Try.func23, Try.ntmps23
    go_wp2_with (at_builtin; refine wpList_append_rd _ rfl _ _ rfl (w.heap.size + 1) _ [] rfl (Own.nil _ _) _ l rfl (HR.out.below (HB0.out _) (Nat.le_refl _)) (by simp; omega) (by simp) ?_)
    intro v1 W1 ho1 hb1
    have hx1 := (hb1.block w.heap.size (by omega)).trans (heap_alloc_new w _)
    have HX1 := hide hx1
    have HB1 := hide ((HB0.out _).trans (hb1.mono (by omega)))
    have HO1 := hide ho1
    have p0 := cell_of_row W1 w.heap.size 0 _ _ _ hx1
    have p1 := cell_of_row W1 w.heap.size 1 _ _ _ hx1
    have p2 := cell_of_row W1 w.heap.size 2 _ _ _ hx1
    clear ho1 hb1 hx1
    go_wp2_with fail
    refine (HF'.out _).mono ?_
    rintro e W2 ⟨rfl, hb2⟩
    rw [HT.out]
    have hx2 := (hb2.block w.heap.size (Array.getElem?_eq_some_iff.1 HX1.out).1).trans HX1.out
    have HX2 := hide hx2
    have HB2 := hide (HB1.out.trans (hb2.mono HB1.out.size))
    have HO2 := hide (HO1.out.below hb2 (Nat.le_refl _))
    clear hb2 hx2 HX1 HX2 HB1 HO1 p0 p1 p2
    go_wp2
    go_ret2
    exact ⟨_, rfl, HO2.out.mono (by omega), HB2.out⟩

theorem two_new (w : World) (X Y : Obj) : ((w.alloc X).alloc Y).heap[w.heap.size + 1]? = some Y := by
  have h := heap_alloc_new (w.alloc X) Y
  have e : (w.alloc X).heap.size = w.heap.size + 1 := by simp
  rwa [e] at h

/-- What is got: the operation and how many bytes. -/
def Gotten (w : World) (l : List UInt8) (e : Ending) (w' : World) : Prop :=
  e = .returned (.tuple #[opV (getOpL l).1, .int .i64 ((getOpL l).2 : Nat)]) ∧ Below w.heap.size w w'

set_option maxRecDepth 100000 in
set_option maxHeartbeats 1000000 in
theorem refGetOp_any (v : Value) (l : List UInt8) (w : World) (hr : Rd w v l) :
    Calls Try.prog 47 #[v] w fun e w' => Gotten w l e w' := by
  have HR := hide hr
  have HB0 : Hid (∀ X, Below w.heap.size w (w.alloc X)) := fun X => (Below.refl _ _).alloc (Nat.le_refl _) X
  have HB1 : Hid (∀ X Y, Below w.heap.size w ((w.alloc X).alloc Y)) := fun X Y => (HB0.out X).alloc (by simp) Y
  have hml : (l.length : Int) ≤ 9223372036854775807 := by
    obtain ⟨_, _, _, h2, h3, _⟩ := hr
    unfold maxLen at h3
    omega
  have HG : Hid (∀ W, Rd W v l → Calls Try.prog 29 #[v] W fun e w' => e = .returned (.tuple #[.int .i64 ((dec62 l).1 : Nat), .int .i64 ((dec62 l).2 : Nat)]) ∧ w' = W) := fun W h => refGet_any v l W h
  have HS1 : Hid (∀ v1 W, Rd W v1 (l.drop (dec62 l).2) → Calls Try.prog 46 #[v1] W fun e w' => e = .returned (.tuple #[.int .i64 (zag (dec64 (l.drop (dec62 l).2)).1), .int .i64 ((dec64 (l.drop (dec62 l).2)).2 : Nat)]) ∧ w' = W) := fun v1 W h => refGetSigned_any v1 _ W h
  have HS2 : Hid (∀ v1 W, Rd W v1 (l.drop ((dec62 l).2 + (dec64 (l.drop (dec62 l).2)).2)) → Calls Try.prog 46 #[v1] W fun e w' => e = .returned (.tuple #[.int .i64 (zag (dec64 (l.drop ((dec62 l).2 + (dec64 (l.drop (dec62 l).2)).2))).1), .int .i64 ((dec64 (l.drop ((dec62 l).2 + (dec64 (l.drop (dec62 l).2)).2))).2 : Nat)]) ∧ w' = W) := fun v1 W h => refGetSigned_any v1 _ W h
  have b1 := dec62_le l
  have b2 := dec64_le (l.drop (dec62 l).2)
  have b3 := dec64_le (l.drop ((dec62 l).2 + (dec64 (l.drop (dec62 l).2)).2))
  simp only [List.length_drop] at b2 b3
  unfold Gotten getOpL
  generalize (dec64 (l.drop ((dec62 l).2 + (dec64 (l.drop (dec62 l).2)).2))).2 = k at *
  generalize zag (dec64 (l.drop ((dec62 l).2 + (dec64 (l.drop (dec62 l).2)).2))).1 = y at *
  generalize (dec64 (l.drop (dec62 l).2)).2 = j at *
  generalize zag (dec64 (l.drop (dec62 l).2)).1 = x at *
  generalize (dec62 l).2 = i at *
  generalize (dec62 l).1 = c at *
  have HF : Hid (∀ W, Calls Try.prog 38 #[.agg #[.int .i64 (c : Int), .int .i64 x, .int .i64 y]] W fun e w' => e = .returned (.bool (decide (FitsO ⟨(c : Int), x, y⟩))) ∧ Below W.heap.size W w') := fun W => refFits_any ⟨(c : Int), x, y⟩ W
  obtain ⟨F, hF⟩ : ∃ F, F = decide (FitsO ⟨(c : Int), x, y⟩) := ⟨_, rfl⟩
  rw [← hF] at HF
  have HFE := hide hF
  obtain ⟨R, hR⟩ : ∃ R : Opn × Nat, R = if i = 0 ∨ j = 0 ∨ k = 0 ∨ ¬ FitsO ⟨(c : Int), x, y⟩ then (⟨0, 0, 0⟩, 0) else (⟨(c : Int), x, y⟩, i + j + k) := ⟨_, rfl⟩
  rw [← hR]
  have HRE := hide hR
  clear hr hF hR
  go_enter Try.func47, Try.ntmps47
  go_wp2_with fail
  refine (HG.out _ (HR.out.below (HB0.out _) (Nat.le_refl _))).mono ?_
  rintro e W1 ⟨rfl, rfl⟩
  have HC1 := hide (fun W (h : Rd W v l) => run_cut_l W v l h .i64 i (by omega) (by omega))
  have HC2 := hide (fun W (h : Rd W v l) => run_cut_l W v l h .i64 ((i : Int) + j) (by omega) (by omega))
  have HRW := hide (fun X => HR.out.below (HB0.out X) (Nat.le_refl _))
  go_wp2_with (refine wpList_cut _ rfl _ _ _ _ rfl _ (HC1.out _ (HRW.out _)) ?_)
  intro v1 hr1
  have HR1 := hide hr1
  clear hr1
  go_wp2_with fail
  refine (HS1.out _ _ (by have h := HR1.out; simpa using h)).mono ?_
  rintro e W1 ⟨rfl, rfl⟩
  go_wp2_with (refine wpList_cut _ rfl _ _ _ _ rfl _ (HC2.out _ (HRW.out _)) ?_)
  intro v2 hr2
  have HR2 := hide hr2
  clear hr2
  have ei : ((i : Int) + (j : Int)).toNat = i + j := by omega
  rw [ei] at HR2
  go_wp2_with fail
  refine (HS2.out _ _ HR2.out).mono ?_
  rintro e W1 ⟨rfl, rfl⟩
  clear HR1 HR2 HC1 HC2 HS1 HS2 HG ei
  go_wp2_with fail
  refine (HF.out _).mono ?_
  rintro e W2 ⟨rfl, hb2⟩
  have hX := (hb2.block w.heap.size (by simp; omega)).trans ((Below.heap_alloc _ _ _ (by simp)).trans (heap_alloc_new w _))
  have hY := (hb2.block (w.heap.size + 1) (by simp)).trans (two_new w _ _)
  have HB2 := hide ((HB1.out _ _).trans (hb2.mono (HB1.out _ _).size))
  have r0 := cell_of_row W2 w.heap.size 0 _ _ _ hX
  have r1 := cell_of_row W2 w.heap.size 1 _ _ _ hX
  have r2 := cell_of_row W2 w.heap.size 2 _ _ _ hX
  have s0 := frozen_of_row W2 w.heap.size 0 _ _ hX
  have s1 := frozen_of_row W2 w.heap.size 1 _ _ hX
  have s2 := frozen_of_row W2 w.heap.size 2 _ _ hX
  have q0 := cell_of_row W2 (w.heap.size + 1) 0 _ _ _ hY
  have q1 := cell_of_row W2 (w.heap.size + 1) 1 _ _ _ hY
  have q2 := cell_of_row W2 (w.heap.size + 1) 2 _ _ _ hY
  clear hb2 hX hY
  by_cases hbad : i = 0 ∨ j = 0 ∨ k = 0 ∨ ¬ FitsO ⟨(c : Int), x, y⟩
  · have HN : Hid (R = (⟨0, 0, 0⟩, 0)) := HRE.out.trans (if_pos hbad)
    by_cases hi : i = 0
    · subst hi
      clear hbad
      go_wp2
      refine bodyPost_ret (v := .tuple #[.agg #[.int .i64 0, .int .i64 0, .int .i64 0], .int .i64 0]) (by simp [results, Try.results47, go_sem, r0, r1, r2]) rfl ?_
      rw [HN.out]
      exact ⟨rfl, ((HB2.out.setCell (Nat.le_refl _) _).setCell (Nat.le_refl _) _).setCell (Nat.le_refl _) _⟩
    · have ei : ((i : Int) == 0) = false := beq_eq_false_iff_ne.2 (by omega)
      by_cases hj : j = 0
      · subst hj
        clear hbad
        go_wp2
        refine bodyPost_ret (v := .tuple #[.agg #[.int .i64 0, .int .i64 0, .int .i64 0], .int .i64 0]) (by simp [results, Try.results47, go_sem, r0, r1, r2]) rfl ?_
        rw [HN.out]
        exact ⟨rfl, ((HB2.out.setCell (Nat.le_refl _) _).setCell (Nat.le_refl _) _).setCell (Nat.le_refl _) _⟩
      · have ej : ((j : Int) == 0) = false := beq_eq_false_iff_ne.2 (by omega)
        by_cases hk : k = 0
        · subst hk
          clear hbad
          go_wp2
          refine bodyPost_ret (v := .tuple #[.agg #[.int .i64 0, .int .i64 0, .int .i64 0], .int .i64 0]) (by simp [results, Try.results47, go_sem, r0, r1, r2]) rfl ?_
          rw [HN.out]
          exact ⟨rfl, ((HB2.out.setCell (Nat.le_refl _) _).setCell (Nat.le_refl _) _).setCell (Nat.le_refl _) _⟩
        · have ek : ((k : Int) == 0) = false := beq_eq_false_iff_ne.2 (by omega)
          have eF : F = false := HFE.out.trans (decide_eq_false (by
            rcases hbad with h | h | h | h
            · exact absurd h hi
            · exact absurd h hj
            · exact absurd h hk
            · exact h))
          subst eF
          clear hbad hi hj hk
          go_wp2
          refine bodyPost_ret (v := .tuple #[.agg #[.int .i64 0, .int .i64 0, .int .i64 0], .int .i64 0]) (by simp [results, Try.results47, go_sem, r0, r1, r2]) rfl ?_
          rw [HN.out]
          exact ⟨rfl, ((HB2.out.setCell (Nat.le_refl _) _).setCell (Nat.le_refl _) _).setCell (Nat.le_refl _) _⟩
  · have HN : Hid (R = (⟨(c : Int), x, y⟩, i + j + k)) := HRE.out.trans (if_neg hbad)
    have ei : ((i : Int) == 0) = false := beq_eq_false_iff_ne.2 (fun h => hbad (.inl (by omega)))
    have ej : ((j : Int) == 0) = false := beq_eq_false_iff_ne.2 (fun h => hbad (.inr (.inl (by omega))))
    have ek : ((k : Int) == 0) = false := beq_eq_false_iff_ne.2 (fun h => hbad (.inr (.inr (.inl (by omega)))))
    have eF : F = true := HFE.out.trans (decide_eq_true (Classical.byContradiction fun h => hbad (.inr (.inr (.inr h)))))
    subst eF
    have hsum : (i : Int) + j + k ≤ 9223372036854775807 := by omega
    clear hbad
    go_wp2
    refine bodyPost_ret (v := .tuple #[.agg #[.int .i64 c, .int .i64 x, .int .i64 y], .int .i64 ((i : Int) + j + k)]) (by simp [results, Try.results47, go_sem, r0, r1, r2]) rfl ?_
    rw [HN.out]
    refine ⟨?_, ((HB2.out.setCell (Nat.le_refl _) _).setCell (Nat.le_refl _) _).setCell (Nat.le_refl _) _⟩
    have e : (((i + j + k : Nat)) : Int) = (i : Int) + j + k := by omega
    show Ending.returned _ = Ending.returned (.tuple #[.agg #[.int .i64 (c : Int), .int .i64 x, .int .i64 y], .int .i64 ((i + j + k : Nat) : Int)])
    rw [e]

end Go.Proofs.Ytgmdhlchdjlgnaa
