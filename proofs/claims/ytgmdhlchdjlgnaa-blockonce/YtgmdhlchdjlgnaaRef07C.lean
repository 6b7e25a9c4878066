/- Contract of ferrymanref07: one. -/
import Derived.Test.YtgmdhlchdjlgnaaRef07B
namespace Go.Proofs.Ytgmdhlchdjlgnaa
open Go.RowKit

/-- What bytes begin with: a record and how many bytes. -/
def OneR (w : World) (l : List Rec) (b : List UInt8) (e : Ending) (w' : World) : Prop :=
  e = .returned (.tuple #[recV (oneL l b).1, .int .i64 ((oneL l b).2 : Nat)]) ∧ Below w.heap.size w w'

theorem belowSevenB {C : Nat} {w0 w : World} (h : Below C w0 w) (R : Nat) (hR : C ≤ R) (x0 x1 x2 x3 x4 x5 x6 : Value) : Below C w0 (((((((w.setCell ⟨R, 0, none⟩ x0).setCell ⟨R, 1, none⟩ x1).setCell ⟨R, 2, none⟩ x2).setCell ⟨R, 3, none⟩ x3).setCell ⟨R, 4, none⟩ x4).setCell ⟨R, 5, none⟩ x5).setCell ⟨R, 6, none⟩ x6) :=
  ((((((h.setCell hR _).setCell hR _).setCell hR _).setCell hR _).setCell hR _).setCell hR _).setCell hR _

set_option maxRecDepth 100000 in
set_option maxHeartbeats 4000000 in
theorem refOne_any (vl : Value) (l : List Rec) (vb : Value) (b : List UInt8) (w : World) (hl : RdR w vl l) (hr : Rd w vb b) :
    Calls Try.prog 30 #[vl, vb] w fun e w' => OneR w l b e w' := by
  have HL := hide hl
  have HR := hide hr
  have HB1 : Hid (∀ X Y, Below w.heap.size w ((w.alloc X).alloc Y)) := fun X Y => ((Below.refl _ _).alloc (Nat.le_refl _) X).alloc (by simp) Y
  have hml : (b.length : Int) ≤ 9223372036854775807 := by
    obtain ⟨_, _, _, h2, h3, _⟩ := hr
    unfold maxLen at h3
    omega
  have HG : Hid (∀ W, Rd W vb b → Calls Try.prog 29 #[vb] W fun e w' => e = .returned (.tuple #[.int .i64 ((dec62 b).1 : Nat), .int .i64 ((dec62 b).2 : Nat)]) ∧ w' = W) := fun W h => refGet_any vb b W h
  have HS1 : Hid (∀ v1 W, Rd W v1 (b.drop (dec62 b).2) → Calls Try.prog 46 #[v1] W fun e w' => e = .returned (.tuple #[.int .i64 (zag (dec64 (b.drop (dec62 b).2)).1), .int .i64 ((dec64 (b.drop (dec62 b).2)).2 : Nat)]) ∧ w' = W) := fun v1 W h => refGetSigned_any v1 _ W h
  have HGO : Hid (∀ v1 m W, Rd W v1 m → Calls Try.prog 47 #[v1] W fun e w' => Gotten W m e w') := fun v1 m W h => refGetOp_any v1 m W h
  have HSG : Hid (∀ v1 m W, Rd W v1 m → Calls Try.prog 46 #[v1] W fun e w' => e = .returned (.tuple #[.int .i64 (zag (dec64 m).1), .int .i64 ((dec64 m).2 : Nat)]) ∧ w' = W) := fun v1 m W h => refGetSigned_any v1 m W h
  have b1 := dec62_le b
  have b2 := dec64_le (b.drop (dec62 b).2)
  have b3 := getOp_le (b.drop ((dec62 b).2 + (dec64 (b.drop (dec62 b).2)).2))
  have b4 := dec64_le (b.drop ((dec62 b).2 + (dec64 (b.drop (dec62 b).2)).2 + (getOpL (b.drop ((dec62 b).2 + (dec64 (b.drop (dec62 b).2)).2))).2))
  simp only [List.length_drop] at b2 b3 b4
  have hone : oneL l b = if (dec62 b).2 = 0 ∨ (dec64 (b.drop (dec62 b).2)).2 = 0 ∨ (getOpL (b.drop ((dec62 b).2 + (dec64 (b.drop (dec62 b).2)).2))).2 = 0 ∨ (dec64 (b.drop ((dec62 b).2 + (dec64 (b.drop (dec62 b).2)).2 + (getOpL (b.drop ((dec62 b).2 + (dec64 (b.drop (dec62 b).2)).2))).2))).2 = 0 then (zeroR, 0)
    else (⟨0, (dec62 b).1, IntKind.i64.wrap (lastSeq l (dec62 b).1 + zag (dec64 (b.drop (dec62 b).2)).1), (getOpL (b.drop ((dec62 b).2 + (dec64 (b.drop (dec62 b).2)).2))).1, zag (dec64 (b.drop ((dec62 b).2 + (dec64 (b.drop (dec62 b).2)).2 + (getOpL (b.drop ((dec62 b).2 + (dec64 (b.drop (dec62 b).2)).2))).2))).1⟩, (dec62 b).2 + (dec64 (b.drop (dec62 b).2)).2 + (getOpL (b.drop ((dec62 b).2 + (dec64 (b.drop (dec62 b).2)).2))).2 + (dec64 (b.drop ((dec62 b).2 + (dec64 (b.drop (dec62 b).2)).2 + (getOpL (b.drop ((dec62 b).2 + (dec64 (b.drop (dec62 b).2)).2))).2))).2) := rfl
  have HS4 := hide (fun v1 W h => HSG.out v1 (b.drop ((dec62 b).2 + (dec64 (b.drop (dec62 b).2)).2 + (getOpL (b.drop ((dec62 b).2 + (dec64 (b.drop (dec62 b).2)).2))).2)) W h)
  have HO3 := hide (fun v1 W h => HGO.out v1 (b.drop ((dec62 b).2 + (dec64 (b.drop (dec62 b).2)).2)) W h)
  unfold Gotten opV at HO3
  unfold OneR
  generalize oneL l b = R at *
  generalize (dec64 (b.drop ((dec62 b).2 + (dec64 (b.drop (dec62 b).2)).2 + (getOpL (b.drop ((dec62 b).2 + (dec64 (b.drop (dec62 b).2)).2))).2))).2 = m at *
  generalize zag (dec64 (b.drop ((dec62 b).2 + (dec64 (b.drop (dec62 b).2)).2 + (getOpL (b.drop ((dec62 b).2 + (dec64 (b.drop (dec62 b).2)).2))).2))).1 = x at *
  generalize (getOpL (b.drop ((dec62 b).2 + (dec64 (b.drop (dec62 b).2)).2))).2 = k at *
  generalize (getOpL (b.drop ((dec62 b).2 + (dec64 (b.drop (dec62 b).2)).2))).1 = op at *
  generalize (dec64 (b.drop (dec62 b).2)).2 = j at *
  generalize zag (dec64 (b.drop (dec62 b).2)).1 = d at *
  generalize (dec62 b).2 = i at *
  have HLS : Hid (∀ W, Below w.heap.size w W → Calls Try.prog 22 #[vl, .int .i64 ((dec62 b).1 : Nat)] W fun e w' => e = .returned (.int .i64 (lastSeq l ((dec62 b).1 : Nat))) ∧ w' = W) := fun W h => refLast_any vl l _ W (HL.out.below h (Nat.le_refl _))
  generalize (dec62 b).1 = pn at *
  obtain ⟨p, hp⟩ : ∃ p : Int, p = (pn : Int) := ⟨_, rfl⟩
  rw [← hp] at HG HLS hone
  generalize lastSeq l p = ls at *
  obtain ⟨sq, hsq⟩ : ∃ sq, sq = IntKind.i64.wrap (ls + d) := ⟨_, rfl⟩
  rw [← hsq] at hone
  have HSQ := hide hsq.symm
  have HONE := hide hone
  have HRW := hide (fun X Y => HR.out.below (HB1.out X Y) (Nat.le_refl _))
  have HC1 := hide (fun W (h : Rd W vb b) => run_cut_l W vb b h .i64 i (by omega) (by omega))
  have HC2 := hide (fun W (h : Rd W vb b) => run_cut_l W vb b h .i64 ((i : Int) + j) (by omega) (by omega))
  have HC3 := hide (fun W (h : Rd W vb b) => run_cut_l W vb b h .i64 ((i : Int) + j + k) (by omega) (by omega))
  have HN1 : Hid (∀ cs cs', Br ((w.alloc (.cells cs 37)).alloc (.cells cs' 37)) w.heap.size cs) := fun cs cs' => (Below.heap_alloc _ _ _ (by simp)).trans (heap_alloc_new w _)
  have HN2 : Hid (∀ X cs', Br ((w.alloc X).alloc (.cells cs' 37)) (w.heap.size + 1) cs') := fun X cs' => two_new w _ _
  clear hl hr hp hsq hone HGO HSG
  go_enter Try.func30, Try.ntmps30
  go_wp2_with fail
  refine (HG.out _ (HRW.out _ _)).mono ?_
  rintro e W1 ⟨rfl, rfl⟩
  go_wp2_with (refine wpList_cut _ rfl _ _ _ _ rfl _ (HC1.out _ (HRW.out _ _)) ?_)
  intro v1 hr1
  have HR1 := hide hr1
  clear hr1
  go_wp2_with fail
  refine (HS1.out _ _ (by have h := HR1.out; simpa using h)).mono ?_
  rintro e W1 ⟨rfl, rfl⟩
  go_wp2_with (refine wpList_cut _ rfl _ _ _ _ rfl _ (HC2.out _ (HRW.out _ _)) ?_)
  intro v2 hr2
  have HR2 := hide hr2
  clear hr2
  have ei : ((i : Int) + (j : Int)).toNat = i + j := by omega
  rw [ei] at HR2
  go_wp2_with fail
  refine (HO3.out _ _ HR2.out).mono ?_
  rintro e W3 ⟨rfl, hb3⟩
  have HA3 := hide ((HN1.out _ _).below hb3 (Nat.le_refl _))
  have HQ3 := hide ((HN2.out _ _).below hb3 (Nat.le_refl _))
  have HB3 := hide ((HB1.out _ _).trans (hb3.mono (HB1.out _ _).size))
  clear hb3 HR1 HR2 ei HC1 HC2 HG HS1 HO3 HRW HN1 HN2 HB1
  obtain ⟨NO, hNO⟩ : ∃ N, N = W3.heap.size := ⟨_, rfl⟩
  obtain ⟨WA, hWA⟩ : ∃ WA, WA = W3.alloc (.cells #[.int .i64 op.code, .int .i64 op.a, .int .i64 op.b] 35) := ⟨_, rfl⟩
  have hbA : Below W3.heap.size W3 WA := by rw [hWA]; exact (Below.refl _ _).alloc (Nat.le_refl _) _
  have HA := hide (HA3.out.below hbA (Nat.le_refl _))
  have HQ := hide (HQ3.out.below hbA (Nat.le_refl _))
  have HO : Hid (Bo WA NO #[.int .i64 op.code, .int .i64 op.a, .int .i64 op.b]) := hide (by rw [hWA, hNO]; exact heap_alloc_new W3 _)
  have HBA := hide (HB3.out.trans (hbA.mono HB3.out.size))
  have hNN : w.heap.size + 1 < NO := by have := HQ3.out.lt; omega
  go_upto_region 5 with fail
  rw [← hWA, ← hNO]
  clear hWA hNO hbA HA3 HQ3 HB3
  have HRA := hide (HR.out.below HBA.out (Nat.le_refl _))
  have hs1 : (i : Int) + j ≤ 9223372036854775807 := by omega
  go_wp2_with (refine wpList_cut _ rfl _ _ _ _ rfl _ (HC3.out _ HRA.out) ?_)
  intro v4 hr4
  have ei3 : ((i : Int) + (j : Int) + (k : Int)).toNat = i + j + k := by omega
  rw [ei3] at hr4
  have HR4 := hide hr4
  clear hr4 ei3
  go_wp2_with fail
  refine (HS4.out _ _ HR4.out).mono ?_
  rintro e W1 ⟨rfl, hw1⟩
  rw [hw1]
  clear hw1 W1 HR4 HC3 HS4 HRA
  obtain ⟨r0, f0⟩ := HA.out.cell 0
  obtain ⟨r1, f1⟩ := HA.out.cell 1
  obtain ⟨r2, f2⟩ := HA.out.cell 2
  obtain ⟨r3, f3⟩ := HA.out.cell 3
  obtain ⟨r4, f4⟩ := HA.out.cell 4
  obtain ⟨r5, f5⟩ := HA.out.cell 5
  obtain ⟨r6, f6⟩ := HA.out.cell 6
  obtain ⟨q0, g0⟩ := HQ.out.cell 0
  obtain ⟨q1, g1⟩ := HQ.out.cell 1
  obtain ⟨q2, g2⟩ := HQ.out.cell 2
  obtain ⟨q3, g3⟩ := HQ.out.cell 3
  obtain ⟨q4, g4⟩ := HQ.out.cell 4
  obtain ⟨q5, g5⟩ := HQ.out.cell 5
  obtain ⟨q6, g6⟩ := HQ.out.cell 6
  by_cases hbad : i = 0 ∨ j = 0 ∨ k = 0 ∨ m = 0
  · have HE : Hid (R = (zeroR, 0)) := hide (by rw [HONE.out, if_pos hbad])
    clear HONE
    by_cases hi : i = 0
    · subst hi
      clear hbad
      go_wp2
      refine bodyPost_ret (v := .tuple #[.agg #[.int .i64 0, .int .i64 0, .int .i64 0, .int .i64 0, .int .i64 0, .int .i64 0, .int .i64 0], .int .i64 0]) (by simp [results, Try.results30, go_sem, r0, r1, r2, r3, r4, r5, r6]) rfl ?_
      rw [HE.out]
      exact ⟨rfl, belowSevenB HBA.out w.heap.size (Nat.le_refl _) _ _ _ _ _ _ _⟩
    have ei : ((i : Int) == 0) = false := beq_eq_false_iff_ne.2 (by omega)
    by_cases hj : j = 0
    · subst hj
      clear hbad
      go_wp2
      refine bodyPost_ret (v := .tuple #[.agg #[.int .i64 0, .int .i64 0, .int .i64 0, .int .i64 0, .int .i64 0, .int .i64 0, .int .i64 0], .int .i64 0]) (by simp [results, Try.results30, go_sem, r0, r1, r2, r3, r4, r5, r6]) rfl ?_
      rw [HE.out]
      exact ⟨rfl, belowSevenB HBA.out w.heap.size (Nat.le_refl _) _ _ _ _ _ _ _⟩
    have ej : ((j : Int) == 0) = false := beq_eq_false_iff_ne.2 (by omega)
    by_cases hk : k = 0
    · subst hk
      clear hbad
      go_wp2
      refine bodyPost_ret (v := .tuple #[.agg #[.int .i64 0, .int .i64 0, .int .i64 0, .int .i64 0, .int .i64 0, .int .i64 0, .int .i64 0], .int .i64 0]) (by simp [results, Try.results30, go_sem, r0, r1, r2, r3, r4, r5, r6]) rfl ?_
      rw [HE.out]
      exact ⟨rfl, belowSevenB HBA.out w.heap.size (Nat.le_refl _) _ _ _ _ _ _ _⟩
    have ek : ((k : Int) == 0) = false := beq_eq_false_iff_ne.2 (by omega)
    obtain rfl : m = 0 := by
      rcases hbad with h | h | h | h
      · exact absurd h hi
      · exact absurd h hj
      · exact absurd h hk
      · exact h
    clear hbad hi hj hk
    go_wp2
    refine bodyPost_ret (v := .tuple #[.agg #[.int .i64 0, .int .i64 0, .int .i64 0, .int .i64 0, .int .i64 0, .int .i64 0, .int .i64 0], .int .i64 0]) (by simp [results, Try.results30, go_sem, r0, r1, r2, r3, r4, r5, r6]) rfl ?_
    rw [HE.out]
    exact ⟨rfl, belowSevenB HBA.out w.heap.size (Nat.le_refl _) _ _ _ _ _ _ _⟩
  · have HE : Hid (R = (⟨0, p, sq, op, x⟩, i + j + k + m)) := hide (by rw [HONE.out, if_neg hbad])
    have ei : ((i : Int) == 0) = false := beq_eq_false_iff_ne.2 (fun h => hbad (.inl (by omega)))
    have ej : ((j : Int) == 0) = false := beq_eq_false_iff_ne.2 (fun h => hbad (.inr (.inl (by omega))))
    have ek : ((k : Int) == 0) = false := beq_eq_false_iff_ne.2 (fun h => hbad (.inr (.inr (.inl (by omega)))))
    have em : ((m : Int) == 0) = false := beq_eq_false_iff_ne.2 (fun h => hbad (.inr (.inr (.inr (by omega)))))
    clear HONE hbad
    have HB2 : Hid (∀ X, Below w.heap.size w (WA.setCell ⟨w.heap.size + 1, 1, none⟩ X)) := fun X => HBA.out.setCell (by show w.heap.size ≤ w.heap.size + 1; omega) X
    go_wp2_with fail
    refine (HLS.out _ (HB2.out _)).mono ?_
    rintro e W1 ⟨rfl, rfl⟩
    have hw := HSQ.out
    obtain ⟨o0, -⟩ := HO.out.cell 0
    obtain ⟨o1, -⟩ := HO.out.cell 1
    obtain ⟨o2, -⟩ := HO.out.cell 2
    have n1 : w.heap.size + 1 ≠ NO := by omega
    have n2 : NO ≠ w.heap.size + 1 := by omega
    have n3 : w.heap.size ≠ NO := by omega
    have n4 : NO ≠ w.heap.size := by omega
    have hs3 : (i : Int) + j + k + m ≤ 9223372036854775807 := by omega
    have hs2 : (i : Int) + j + k ≤ 9223372036854775807 := by omega
    go_wp2
    refine bodyPost_ret (v := .tuple #[.agg #[.int .i64 0, .int .i64 p, .int .i64 sq, .int .i64 op.code, .int .i64 op.a, .int .i64 op.b, .int .i64 x], .int .i64 ((i : Int) + j + k + m)]) (by simp [results, Try.results30, go_sem, r0, r1, r2, r3, r4, r5, r6]) rfl ?_
    rw [HE.out]
    have e : (((i + j + k + m : Nat)) : Int) = (i : Int) + j + k + m := by omega
    refine ⟨?_, belowSevenB ?_ w.heap.size (Nat.le_refl _) _ _ _ _ _ _ _⟩
    · show Ending.returned _ = Ending.returned (.tuple #[.agg #[.int .i64 0, .int .i64 p, .int .i64 sq, .int .i64 op.code, .int .i64 op.a, .int .i64 op.b, .int .i64 x], .int .i64 ((i + j + k + m : Nat) : Int)])
      rw [e]
    · exact (((((HB2.out _).setCell (by show w.heap.size ≤ w.heap.size + 1; omega) _).setCell (by show w.heap.size ≤ w.heap.size + 1; omega) _).setCell (by show w.heap.size ≤ w.heap.size + 1; omega) _).setCell (by show w.heap.size ≤ w.heap.size + 1; omega) _).setCell (by show w.heap.size ≤ w.heap.size + 1; omega) _

end Go.Proofs.Ytgmdhlchdjlgnaa
