import Derived.Test.YtanmjihiceibbaaGreatPack4
import Derived.Test.YtanmjihiceibbaaGreatRef09G
import Derived.Test.YtanmjihiceibbaaGreatRef05C
import Derived.Test.YtanmjihiceibbaaGreatFrameLists
import Derived.Test.YtanmjihiceibbaaGreatPack2
import Derived.Test.YtanmjihiceibbaaGreatRef03Same
import Derived.ChangeSlices
import Derived.Test.YtanmjihiceibbaaGreatRef03List
/- Contract of ferrymanref09: read. -/
namespace Go.Proofs.YtanmjihiceibbaaGreat
open Go.RowKit

theorem readN_eq (w : List UInt8) : readN w = if (dec62 w).2 = 0 ∨ w.length < (dec62 w).2 + (dec62 w).1 then (zeroN, 3)
    else if (decS ((w.drop (dec62 w).2).take (dec62 w).1)).2 = 3 ∨ tableL (w.drop ((dec62 w).2 + (dec62 w).1)) = none then (zeroN, 3)
    else (⟨0, (decS ((w.drop (dec62 w).2).take (dec62 w).1)).1, (tableL (w.drop ((dec62 w).2 + (dec62 w).1))).getD []⟩, (decS ((w.drop (dec62 w).2).take (dec62 w).1)).2) := by
  unfold readN
  by_cases h1 : (dec62 w).2 = 0 ∨ w.length < (dec62 w).2 + (dec62 w).1
  · rw [if_pos h1, if_pos h1]
  rw [if_neg h1, if_neg h1]
  by_cases h2 : (decS ((w.drop (dec62 w).2).take (dec62 w).1)).2 = 3
  · rw [if_pos h2, if_pos (.inl h2)]
  rw [if_neg h2]
  cases h3 : tableL (w.drop ((dec62 w).2 + (dec62 w).1)) with
  | none => rw [if_pos (.inr rfl)]
  | some t =>
    rw [if_neg (by rintro (h | h); exact h2 h; cases h)]
    rfl

set_option maxRecDepth 100000 in
set_option maxHeartbeats 4000000 in
theorem refReadN_any (v : Value) (b : List UInt8) (w : World) (hr : Rd w v b) (hlim : b.length ≤ 100000) :
    Calls Tryz.prog 22 #[v] w fun e w' => DecodedN w (readN b) e w' := by
  have HR := hide hr
  obtain ⟨va, vc, rfl⟩ : ∃ va vc, v = .slice va b.length vc := by
    obtain ⟨va, vc, rfl, _⟩ := hr
    exact ⟨va, vc, rfl⟩
  clear hr
  have HE := hide (readN_eq b)
  have HG0 := hide (fun W h => refGet_any (.slice va b.length vc) b W h)
  have b1 := dec62_le b
  have c1 : (dec62 b).1 < 4611686018427387904 := by
    rcases dec62_cases b with h | h
    · rw [h]; decide
    · exact h.1
  have HDS := hide (fun v1 W h => refDecodeState_any v1 ((b.drop (dec62 b).2).take (dec62 b).1) W h)
  have HTB := hide (fun v1 W h => refTableL_any v1 (b.drop ((dec62 b).2 + (dec62 b).1)) W h (by rw [List.length_drop]; omega))
  generalize (dec62 b).2 = k at *
  generalize (dec62 b).1 = n at *
  have HB0 : Hid (∀ X, Below w.heap.size w (w.alloc X)) := fun X => (Below.refl _ _).alloc (Nat.le_refl _) X
  have HX0 : Hid (∀ cs, Bn (w.alloc (.cells cs 29)) w.heap.size cs) := fun cs => heap_alloc_new w _
  obtain ⟨W0, hW0⟩ : ∃ W0, W0 = w.alloc (.cells #[.int .i64 0, .int .i64 0, .slice none 0 0, .bool false, .int .i64 0, .slice none 0 0] 29) := ⟨_, rfl⟩
  have HBW := hide (HB0.out (.cells #[.int .i64 0, .int .i64 0, .slice none 0 0, .bool false, .int .i64 0, .slice none 0 0] 29))
  have HXW := hide (HX0.out #[.int .i64 0, .int .i64 0, .slice none 0 0, .bool false, .int .i64 0, .slice none 0 0])
  rw [← hW0] at HBW HXW
  have HS0 : Hid (W0.heap.size = w.heap.size + 1) := hide (by rw [hW0]; simp)
  have HW0 := hide hW0
  clear hW0
  have HRW := hide (HR.out.below HBW.out (Nat.le_refl _))
  clear HB0 HX0
  by_cases hbad : k = 0 ∨ b.length < k + n
  · have HF : Hid (readN b = (zeroN, 3)) := hide (by rw [HE.out, if_pos hbad])
    rw [HF.out]
    obtain ⟨p0, f0⟩ := HXW.out.cell 0
    obtain ⟨p1, f1⟩ := HXW.out.cell 1
    obtain ⟨p2, f2⟩ := HXW.out.cell 2
    obtain ⟨p3, f3⟩ := HXW.out.cell 3
    obtain ⟨p4, f4⟩ := HXW.out.cell 4
    obtain ⟨p5, f5⟩ := HXW.out.cell 5
    have HBS := hide (fun x0 x1 x2 x3 x4 x5 => belowSix HBW.out w.heap.size (Nat.le_refl _) x0 x1 x2 x3 x4 x5)
    unfold six at HBS
    by_cases e1 : k = 0
    · subst e1
      clear hbad HE HF
      go_enter Tryz.func22, Tryz.ntmps22
      go_wp2_with fail
      rw [← HW0.out]
      refine (HG0.out _ HRW.out).mono ?_
      rintro e W1 ⟨rfl, hw1⟩
      rw [hw1]
      clear hw1 W1
      go_wp2
      refine bodyPost_ret (v := .tuple #[.agg #[.int .i64 0, .int .i64 0, .slice none 0 0, .bool false, .int .i64 0, .slice none 0 0], .int .i64 3]) (by simp [results, Tryz.results22, go_sem, p0, p1, p2, p3, p4, p5]) rfl ?_
      exact DecodedN.zero 3 (HBS.out _ _ _ _ _ _)
    have ek : ((k : Int) == 0) = false := beq_eq_false_iff_ne.2 (by omega)
    have hgt : (b.length : Int) - (k : Int) < (n : Int) := by omega
    clear hbad HE HF
    go_enter Tryz.func22, Tryz.ntmps22
    go_wp2_with fail
    rw [← HW0.out]
    refine (HG0.out _ HRW.out).mono ?_
    rintro e W1 ⟨rfl, hw1⟩
    rw [hw1]
    clear hw1 W1
    go_wp2
    refine bodyPost_ret (v := .tuple #[.agg #[.int .i64 0, .int .i64 0, .slice none 0 0, .bool false, .int .i64 0, .slice none 0 0], .int .i64 3]) (by simp [results, Tryz.results22, go_sem, p0, p1, p2, p3, p4, p5]) rfl ?_
    exact DecodedN.zero 3 (HBS.out _ _ _ _ _ _)
  have HE1 := hide (HE.out.trans (if_neg hbad))
  have ek : ((k : Int) == 0) = false := beq_eq_false_iff_ne.2 (by omega)
  have hgd : decide ((b.length : Int) - (k : Int) < (n : Int)) = false := decide_eq_false (by omega)
  have hkn : k + n ≤ b.length := by omega
  have hsum : (k : Int) + (n : Int) ≤ 9223372036854775807 := by omega
  have HC1 := hide (fun W (h : Rd W (.slice va b.length vc) b) => run_cut_lh W _ b h .i64 .i64 (k : Int) ((k : Int) + (n : Int)) (by omega) (by omega) (by omega))
  have HC2 := hide (fun W (h : Rd W (.slice va b.length vc) b) => run_cut_l W _ b h .i64 ((k : Int) + (n : Int)) (by omega) (by omega))
  have t1 : (k : Int).toNat = k := by omega
  have t2 : ((k : Int) + (n : Int)).toNat = k + n := by omega
  rw [t1, t2, Nat.add_sub_cancel_left] at HC1
  rw [t2] at HC2
  clear HE hbad t1 t2
  generalize readN b = RN at *
  generalize decS ((b.drop k).take n) = DS at *
  generalize tableL (b.drop (k + n)) = TL at *
  generalize (b.drop k).take n = D1 at *
  generalize b.drop (k + n) = D2 at *
  obtain ⟨⟨kd, Lx, sh, en⟩, er⟩ := DS
  dsimp only at HE1
  go_enter Tryz.func22, Tryz.ntmps22
  go_wp2_with fail
  rw [← HW0.out]
  refine (HG0.out _ HRW.out).mono ?_
  rintro e W1 ⟨rfl, hw1⟩
  rw [hw1]
  clear hw1 W1
  go_wp2_with (refine wpList_cut _ rfl _ _ _ _ rfl _ (HC1.out _ HRW.out) ?_)
  intro v1 hr1
  have HR1 := hide hr1
  clear hr1
  go_wp2_with fail
  refine (HDS.out _ _ HR1.out).mono ?_
  rintro e W1 ⟨vl, rfl, hl1, hk1, he1, hf1, hb1⟩
  dsimp only
  obtain ⟨la, lc, hvl⟩ : ∃ la lc, vl = .slice la Lx.length lc := by
    obtain ⟨a, c, h, -⟩ := hl1
    exact ⟨a, c, h⟩
  subst hvl
  have HL1 := hide hl1
  have HK1 := hide hk1
  have HE0 := hide he1
  have HF1 := hide hf1
  have HB1 := hide (HBW.out.trans (hb1.mono HBW.out.size))
  have HX1 := hide (HXW.out.below hb1 (Nat.le_refl _))
  have HZ1 := hide hb1.size
  have HRR1 := hide (HRW.out.below hb1 (Nat.le_refl _))
  clear hl1 hk1 he1 hf1 hb1 HDS HR1
  have HBA : Hid (∀ X, Below W1.heap.size W1 (W1.alloc X)) := fun X => (Below.refl _ _).alloc (Nat.le_refl _) X
  have HXS : Hid (∀ cs, Bx (W1.alloc (.cells cs 26)) W1.heap.size cs) := fun cs => heap_alloc_new W1 _
  go_wp2_with (refine wpList_cut _ rfl _ _ _ _ rfl _ (HC2.out _ (HRR1.out.below (HBA.out _) (Nat.le_refl _))) ?_)
  intro v2 hr2
  have HR2 := hide hr2
  clear hr2
  go_wp2_with fail
  refine (HTB.out _ _ HR2.out).mono ?_
  rintro e W3 ⟨vt, tt, rfl, ho3, hi3, he3, hb3⟩
  obtain ⟨ta, tc, hvt⟩ := ho3.shape
  subst hvt
  have hb13 : Below W1.heap.size W1 W3 := (HBA.out _).trans (hb3.mono (HBA.out _).size)
  have hxs3 : Bx W3 W1.heap.size _ := (HXS.out _).below hb3 (Nat.le_refl _)
  have HL3 := hide (HL1.out.below hb13 (Nat.le_refl _))
  have hx3 : Bn W3 w.heap.size _ := HX1.out.below hb13 (Nat.le_refl _)
  have HB3 := hide (HB1.out.trans (hb13.mono HB1.out.size))
  have HT3 := hide (ho3.rd hi3)
  have HTF := hide ho3.fresh
  have HTE := hide he3
  obtain ⟨s0, -⟩ := hxs3.cell 0
  obtain ⟨s1, -⟩ := hxs3.cell 1
  obtain ⟨s2, -⟩ := hxs3.cell 2
  obtain ⟨s3, -⟩ := hxs3.cell 3
  obtain ⟨p0, f0⟩ := hx3.cell 0
  obtain ⟨p1, f1⟩ := hx3.cell 1
  obtain ⟨p2, f2⟩ := hx3.cell 2
  obtain ⟨p3, f3⟩ := hx3.cell 3
  obtain ⟨p4, f4⟩ := hx3.cell 4
  obtain ⟨p5, f5⟩ := hx3.cell 5
  have HBS := hide (fun x0 x1 x2 x3 x4 x5 => belowSix HB3.out w.heap.size (Nat.le_refl _) x0 x1 x2 x3 x4 x5)
  have HBT := hide (fun x0 x1 x2 x3 x4 x5 => butSix W3 w.heap.size x0 x1 x2 x3 x4 x5)
  unfold six at HBS HBT
  clear ho3 hi3 he3 hb3 hb13 hxs3 hx3 HXS HBA HR2 HTB HL1 HX1 HB1
  by_cases h3 : er = 3
  · subst h3
    have HF : Hid (RN = (zeroN, 3)) := hide (HE1.out.trans (if_pos (.inl rfl)))
    clear HE1
    go_wp2
    refine bodyPost_ret (v := .tuple #[.agg #[.int .i64 0, .int .i64 0, .slice none 0 0, .bool false, .int .i64 0, .slice none 0 0], .int .i64 3]) (by simp [results, Tryz.results22, go_sem, p0, p1, p2, p3, p4, p5]) rfl ?_
    rw [HF.out]
    exact DecodedN.zero 3 (HBS.out _ _ _ _ _ _)
  have h3b : (er == 3) = false := beq_eq_false_iff_ne.2 h3
  have H3 := hide h3
  clear h3
  cases TL with
  | none =>
    have HF : Hid (RN = (zeroN, 3)) := hide (HE1.out.trans (if_pos (.inr rfl)))
    clear HE1
    rw [Option.isSome_none]
    go_wp2
    refine bodyPost_ret (v := .tuple #[.agg #[.int .i64 0, .int .i64 0, .slice none 0 0, .bool false, .int .i64 0, .slice none 0 0], .int .i64 3]) (by simp [results, Tryz.results22, go_sem, p0, p1, p2, p3, p4, p5]) rfl ?_
    rw [HF.out]
    exact DecodedN.zero 3 (HBS.out _ _ _ _ _ _)
  | some t =>
    have hte := HTE.out t rfl
    subst hte
    have HF : Hid (RN = (⟨0, ⟨kd, Lx, sh, en⟩, tt⟩, er)) := hide (HE1.out.trans (if_neg (by rintro (h | h); exact H3.out h; cases h)))
    clear HE1
    rw [Option.isSome_some]
    go_wp2
    refine bodyPost_ret (v := .tuple #[.agg #[.int .i64 0, .int .i64 kd, .slice la Lx.length lc, .bool sh, .int .i64 en, .slice ta tt.length tc], .int .i64 er]) (by simp [results, Tryz.results22, go_sem, p0, p1, p2, p3, p4, p5]) rfl ?_
    rw [HF.out]
    refine ⟨_, _, rfl, HL3.out.but (HBT.out _ _ _ _ _ _) (.inr fun b hb => ?_), HK1.out, HE0.out, HT3.out.but (HBT.out _ _ _ _ _ _) (.inr fun b hb => ?_), (i64_small (by decide) (by decide) : I64 0), fun b hb => ?_, fun b hb => ?_, HBS.out _ _ _ _ _ _⟩
    · have := HF1.out b hb
      have := HS0.out
      omega
    · have := HTF.out b hb
      have := HZ1.out
      have := HS0.out
      rw [show (W1.alloc _).heap.size = W1.heap.size + 1 by simp] at *
      omega
    · have := HF1.out b hb
      have := HS0.out
      omega
    · have := HTF.out b hb
      have := HZ1.out
      have := HS0.out
      rw [show (W1.alloc _).heap.size = W1.heap.size + 1 by simp] at *
      omega

end Go.Proofs.YtanmjihiceibbaaGreat

/- Contracts of ferrymanref09: manifest, cut. -/
namespace Go.Proofs.YtanmjihiceibbaaGreat
open Go.RowKit

theorem maniL_eq (d : List UInt8) : maniL d = if d.length < 1 ∨ (d.getD 0 0).toNat ≠ 115 then (0, 0, 0, 3)
  else if (dec62 (d.drop 1)).2 = 0 ∨ (dec62 (d.drop (1 + (dec62 (d.drop 1)).2))).2 = 0 ∨ (dec62 (d.drop (1 + (dec62 (d.drop 1)).2 + (dec62 (d.drop (1 + (dec62 (d.drop 1)).2))).2))).2 = 0 then (0, 0, 0, 3)
  else if (dec62 (d.drop 1)).1 ≠ 3 then (0, 0, 0, 6)
  else if (d.drop (1 + (dec62 (d.drop 1)).2 + (dec62 (d.drop (1 + (dec62 (d.drop 1)).2))).2 + (dec62 (d.drop (1 + (dec62 (d.drop 1)).2 + (dec62 (d.drop (1 + (dec62 (d.drop 1)).2))).2))).2)).length ≠ 4 then (0, 0, 0, 3)
  else ((dec62 (d.drop (1 + (dec62 (d.drop 1)).2))).1, (dec62 (d.drop (1 + (dec62 (d.drop 1)).2 + (dec62 (d.drop (1 + (dec62 (d.drop 1)).2))).2))).1, Lib.leNat (d.drop (1 + (dec62 (d.drop 1)).2 + (dec62 (d.drop (1 + (dec62 (d.drop 1)).2))).2 + (dec62 (d.drop (1 + (dec62 (d.drop 1)).2 + (dec62 (d.drop (1 + (dec62 (d.drop 1)).2))).2))).2)), 0) := rfl

set_option maxRecDepth 100000 in
set_option maxHeartbeats 4000000 in
theorem refMani_any (v : Value) (d : List UInt8) (w : World) (hr : Rd w v d) :
    Calls Tryz.prog 19 #[v] w fun e w' => e = .returned (.tuple #[.int .i64 ((maniL d).1 : Nat), .int .i64 ((maniL d).2.1 : Nat), .int .u64 ((maniL d).2.2.1 : Nat), .int .i64 (maniL d).2.2.2]) ∧ w' = w := by
  have HR := hide hr
  have HM := hide (maniL_eq d)
  obtain ⟨ao, cap, rfl, hlc, hcm, -, hao⟩ := hr
  have hml : (d.length : Int) ≤ 9223372036854775807 := by unfold maxLen at hcm; omega
  have HAO := hide hao
  clear hao hlc hcm
  by_cases h0 : d.length < 1
  · have HE : Hid (maniL d = (0, 0, 0, 3)) := hide (by rw [HM.out, if_pos (.inl h0)])
    have h0' : (d.length : Int) < 1 := by omega
    rw [HE.out]
    clear HM HE h0
    go_enter Tryz.func19, Tryz.ntmps19
    go_wp2
    refine bodyPost_ret (v := .tuple #[.int .i64 0, .int .i64 0, .int .u64 0, .int .i64 3]) (by simp [results, Tryz.results19, go_sem]) rfl ?_
    exact ⟨rfl, rfl⟩
  have h0' : decide ((d.length : Int) < 1) = false := decide_eq_false (by omega)
  have hpos : (0 : Int) < (d.length : Int) := by omega
  rcases HAO.out with hn | ⟨c, off, rfl, hc⟩
  · rw [hn] at h0; simp at h0
  have c0 := hc 0 (by omega)
  rw [Nat.add_zero] at c0
  have hB := UInt8.toNat_lt (d.getD 0 0)
  obtain ⟨B, hBe⟩ : ∃ B : Int, B = ((d.getD 0 0).toNat : Int) := ⟨_, rfl⟩
  rw [← hBe] at c0
  by_cases hb : (d.getD 0 0).toNat = 115
  case neg =>
    have HE : Hid (maniL d = (0, 0, 0, 3)) := hide (by rw [HM.out, if_pos (.inr hb)])
    have hbb : (B != 115) = true := by rw [bne_iff_ne]; omega
    rw [HE.out]
    clear HM HE hb hBe hB h0 hc
    go_enter Tryz.func19, Tryz.ntmps19
    go_wp2
    refine bodyPost_ret (v := .tuple #[.int .i64 0, .int .i64 0, .int .u64 0, .int .i64 3]) (by simp [results, Tryz.results19, go_sem]) rfl ?_
    exact ⟨rfl, rfl⟩
  have hbb : (B != 115) = false := by rw [bne_eq_false_iff_eq]; omega
  have HM1 : Hid (maniL d = _) := hide (HM.out.trans (if_neg (by rintro (h | h); exact h0 h; exact h hb)))
  have b1 := dec62_le (d.drop 1)
  have b2 := dec62_le (d.drop (1 + (dec62 (d.drop 1)).2))
  have b3 := dec62_le (d.drop (1 + (dec62 (d.drop 1)).2 + (dec62 (d.drop (1 + (dec62 (d.drop 1)).2))).2))
  simp only [List.length_drop] at b1 b2 b3
  have HG1 : Hid (∀ v1 W, Rd W v1 (d.drop 1) → Calls Tryz.prog 50 #[v1] W fun e w' => e = .returned (.tuple #[.int .i64 ((dec62 (d.drop 1)).1 : Nat), .int .i64 ((dec62 (d.drop 1)).2 : Nat)]) ∧ w' = W) := fun v1 W h => refGet_any v1 _ W h
  have HG2 : Hid (∀ v1 W, Rd W v1 (d.drop (1 + (dec62 (d.drop 1)).2)) → Calls Tryz.prog 50 #[v1] W fun e w' => e = .returned (.tuple #[.int .i64 ((dec62 (d.drop (1 + (dec62 (d.drop 1)).2))).1 : Nat), .int .i64 ((dec62 (d.drop (1 + (dec62 (d.drop 1)).2))).2 : Nat)]) ∧ w' = W) := fun v1 W h => refGet_any v1 _ W h
  have HG3 : Hid (∀ v1 W, Rd W v1 (d.drop (1 + (dec62 (d.drop 1)).2 + (dec62 (d.drop (1 + (dec62 (d.drop 1)).2))).2)) → Calls Tryz.prog 50 #[v1] W fun e w' => e = .returned (.tuple #[.int .i64 ((dec62 (d.drop (1 + (dec62 (d.drop 1)).2 + (dec62 (d.drop (1 + (dec62 (d.drop 1)).2))).2))).1 : Nat), .int .i64 ((dec62 (d.drop (1 + (dec62 (d.drop 1)).2 + (dec62 (d.drop (1 + (dec62 (d.drop 1)).2))).2))).2 : Nat)]) ∧ w' = W) := fun v1 W h => refGet_any v1 _ W h
  have HFX := hide (fun v1 l W h => refFixed_any v1 l W h)
  clear hb hBe hB h0 hc HM
  generalize (dec62 (d.drop (1 + (dec62 (d.drop 1)).2 + (dec62 (d.drop (1 + (dec62 (d.drop 1)).2))).2))).1 = n at *
  generalize (dec62 (d.drop (1 + (dec62 (d.drop 1)).2 + (dec62 (d.drop (1 + (dec62 (d.drop 1)).2))).2))).2 = k at *
  generalize (dec62 (d.drop (1 + (dec62 (d.drop 1)).2))).1 = x at *
  generalize (dec62 (d.drop (1 + (dec62 (d.drop 1)).2))).2 = j at *
  generalize (dec62 (d.drop 1)).1 = vv at *
  generalize (dec62 (d.drop 1)).2 = i at *
  generalize maniL d = R at *
  have HC1 := hide (run_cut_l w _ d HR.out .i64 (1 : Int) (by omega) (by omega))
  have HC2 := hide (run_cut_l w _ d HR.out .i64 (1 + (i : Int)) (by omega) (by omega))
  have HC3 := hide (run_cut_l w _ d HR.out .i64 (1 + (i : Int) + (j : Int)) (by omega) (by omega))
  have HC4 := hide (run_cut_l w _ d HR.out .i64 (1 + (i : Int) + (j : Int) + (k : Int)) (by omega) (by omega))
  have t1 : (1 : Int).toNat = 1 := rfl
  have t2 : (1 + (i : Int)).toNat = 1 + i := by omega
  have t3 : (1 + (i : Int) + (j : Int)).toNat = 1 + i + j := by omega
  have t4 : (1 + (i : Int) + (j : Int) + (k : Int)).toNat = 1 + i + j + k := by omega
  rw [t1] at HC1
  rw [t2] at HC2
  rw [t3] at HC3
  rw [t4] at HC4
  have hs1 : 1 + (i : Int) ≤ 9223372036854775807 := by omega
  have hs2 : 1 + (i : Int) + (j : Int) ≤ 9223372036854775807 := by omega
  have hs3 : 1 + (i : Int) + (j : Int) + (k : Int) ≤ 9223372036854775807 := by omega
  have hrl : (d.drop (1 + i + j + k)).length = d.length - (1 + i + j + k) := List.length_drop
  clear t1 t2 t3 t4 HR
  generalize d.drop 1 = D1 at *
  generalize d.drop (1 + i) = D2 at *
  generalize d.drop (1 + i + j) = D3 at *
  generalize d.drop (1 + i + j + k) = D4 at *
  go_enter Tryz.func19, Tryz.ntmps19
  go_wp2_with (refine wpList_cut _ rfl _ _ _ _ rfl _ HC1.out ?_)
  intro v1 hr1
  have HR1 := hide hr1
  clear hr1
  go_wp2_with fail
  refine (HG1.out _ _ HR1.out).mono ?_
  rintro e W1 ⟨rfl, hw1⟩
  rw [hw1]
  clear hw1 W1 HR1 HC1 HG1
  go_wp2_with (refine wpList_cut _ rfl _ _ _ _ rfl _ HC2.out ?_)
  intro v2 hr2
  have HR2 := hide hr2
  clear hr2
  go_wp2_with fail
  refine (HG2.out _ _ HR2.out).mono ?_
  rintro e W1 ⟨rfl, hw1⟩
  rw [hw1]
  clear hw1 W1 HR2 HC2 HG2
  go_wp2_with (refine wpList_cut _ rfl _ _ _ _ rfl _ HC3.out ?_)
  intro v3 hr3
  have HR3 := hide hr3
  clear hr3
  go_wp2_with fail
  refine (HG3.out _ _ HR3.out).mono ?_
  rintro e W1 ⟨rfl, hw1⟩
  rw [hw1]
  clear hw1 W1 HR3 HC3 HG3
  by_cases hbad : i = 0 ∨ j = 0 ∨ k = 0
  · have HE : Hid (R = (0, 0, 0, 3)) := hide (HM1.out.trans (if_pos hbad))
    by_cases e1 : i = 0
    · subst e1
      clear HM1 hbad
      go_wp2
      refine bodyPost_ret (v := .tuple #[.int .i64 0, .int .i64 0, .int .u64 0, .int .i64 3]) (by simp [results, Tryz.results19, go_sem]) rfl ?_
      rw [HE.out]; exact ⟨rfl, rfl⟩
    have ei : ((i : Int) == 0) = false := beq_eq_false_iff_ne.2 (by omega)
    by_cases e2 : j = 0
    · subst e2
      clear HM1 hbad
      go_wp2
      refine bodyPost_ret (v := .tuple #[.int .i64 0, .int .i64 0, .int .u64 0, .int .i64 3]) (by simp [results, Tryz.results19, go_sem]) rfl ?_
      rw [HE.out]; exact ⟨rfl, rfl⟩
    have ej : ((j : Int) == 0) = false := beq_eq_false_iff_ne.2 (by omega)
    have e3 : k = 0 := by omega
    subst e3
    clear HM1 hbad
    go_wp2
    refine bodyPost_ret (v := .tuple #[.int .i64 0, .int .i64 0, .int .u64 0, .int .i64 3]) (by simp [results, Tryz.results19, go_sem]) rfl ?_
    rw [HE.out]; exact ⟨rfl, rfl⟩
  have ei : ((i : Int) == 0) = false := beq_eq_false_iff_ne.2 (by omega)
  have ej : ((j : Int) == 0) = false := beq_eq_false_iff_ne.2 (by omega)
  have ek : ((k : Int) == 0) = false := beq_eq_false_iff_ne.2 (by omega)
  have HM2 := hide (HM1.out.trans (if_neg hbad))
  by_cases hv : vv = 3
  case neg =>
    have HE : Hid (R = (0, 0, 0, 6)) := hide (HM2.out.trans (if_pos hv))
    have ev : ((vv : Int) != 3) = true := by rw [bne_iff_ne]; omega
    clear HM1 HM2 hbad hv
    go_wp2
    refine bodyPost_ret (v := .tuple #[.int .i64 0, .int .i64 0, .int .u64 0, .int .i64 6]) (by simp [results, Tryz.results19, go_sem]) rfl ?_
    rw [HE.out]; exact ⟨rfl, rfl⟩
  have ev : ((vv : Int) != 3) = false := by rw [bne_eq_false_iff_eq]; omega
  have HM3 := hide (HM2.out.trans (if_neg (fun h => h hv)))
  have HV := hide hv
  clear HM1 HM2 hbad hv
  go_wp2_with (refine wpList_cut _ rfl _ _ _ _ rfl _ HC4.out ?_)
  intro v4 hr4
  have HR4 := hide hr4
  obtain ⟨a4, n4, e4, -⟩ := id hr4
  subst e4
  clear hr4 HC4
  by_cases h4 : D4.length = 4
  case neg =>
    have HE : Hid (R = (0, 0, 0, 3)) := hide (HM3.out.trans (if_pos h4))
    have e4 : ((D4.length : Int) != 4) = true := by rw [bne_iff_ne]; omega
    clear HM3 h4
    go_wp2
    refine bodyPost_ret (v := .tuple #[.int .i64 0, .int .i64 0, .int .u64 0, .int .i64 3]) (by simp [results, Tryz.results19, go_sem]) rfl ?_
    rw [HE.out]; exact ⟨rfl, rfl⟩
  have HE : Hid (R = (x, n, Lib.leNat D4, 0)) := hide (HM3.out.trans (if_neg (fun h => h h4)))
  have HFY : Hid (Calls Tryz.prog 51 #[.slice a4 D4.length n4] w fun e w' => e = .returned (.int .u64 (Lib.leNat D4 : Nat)) ∧ w' = w) := hide (by
    have h := HFX.out _ D4 w HR4.out
    rw [List.take_of_length_le (by omega)] at h
    exact h)
  have e4 : ((D4.length : Int) != 4) = false := by rw [bne_eq_false_iff_eq]; omega
  clear HM3 h4 HFX hrl
  go_wp2_with fail
  refine HFY.out.mono ?_
  rintro e W1 ⟨rfl, hw1⟩
  rw [hw1]
  clear hw1 W1 HFY
  go_wp2
  refine bodyPost_ret (v := .tuple #[.int .i64 (x : Nat), .int .i64 (n : Nat), .int .u64 (Lib.leNat D4 : Nat), .int .i64 0]) (by simp [results, Tryz.results19, go_sem]) rfl ?_
  rw [HE.out]; exact ⟨rfl, rfl⟩

end Go.Proofs.YtanmjihiceibbaaGreat

/- Contract of ferrymanref09: cut. -/
namespace Go.Proofs.YtanmjihiceibbaaGreat
open Go.RowKit

/-- The first k pieces are cut as told. -/
def CutTo (L : List (List UInt8)) (k : Nat) : Prop := ∀ i, i < k → 1 ≤ (L.getD i []).length ∧ (L.getD i []).length ≤ 64 ∧ (i + 1 < L.length → (L.getD i []).length = 64)

theorem cutOk_ref : ∀ L : List (List UInt8), CutOk L ↔ CutTo L L.length
  | [] => ⟨fun _ i hi => absurd hi (Nat.not_lt_zero _), fun _ => trivial⟩
  | [x] => by
    constructor
    · intro h i hi
      have hi0 : i = 0 := by simp at hi; omega
      subst hi0
      exact ⟨h.1, h.2, fun h => absurd h (by simp)⟩
    · intro h
      have := h 0 (by simp)
      exact ⟨this.1, this.2.1⟩
  | x :: y :: t => by
    have ih := cutOk_ref (y :: t)
    constructor
    · intro h i hi
      obtain ⟨h1, h2⟩ := h
      cases i with
      | zero =>
        have e : ((x :: y :: t).getD 0 []) = x := rfl
        rw [e]
        exact ⟨by omega, by omega, fun _ => h1⟩
      | succ i =>
        have e : ((x :: y :: t).getD (i + 1) []) = (y :: t).getD i [] := by simp [List.getD]
        rw [e]
        have h3 := ih.1 h2 i (by simpa using hi)
        exact ⟨h3.1, h3.2.1, fun h => h3.2.2 (by simp at h ⊢; omega)⟩
    · intro h
      refine ⟨(h 0 (by simp)).2.2 (by simp), ih.2 (fun i hi => ?_)⟩
      have h3 := h (i + 1) (by simpa using hi)
      have e : ((x :: y :: t).getD (i + 1) []) = (y :: t).getD i [] := by simp [List.getD]
      rw [e] at h3
      exact ⟨h3.1, h3.2.1, fun h => h3.2.2 (by simp at h ⊢; omega)⟩

theorem CutTo.next {L : List (List UInt8)} {k : Nat} : CutTo L (k + 1) ↔ CutTo L k ∧ 1 ≤ (L.getD k []).length ∧ (L.getD k []).length ≤ 64 ∧ (k + 1 < L.length → (L.getD k []).length = 64) := by
  constructor
  · intro h
    exact ⟨fun i hi => h i (by omega), h k (by omega)⟩
  · rintro ⟨h1, h2⟩ i hi
    by_cases e : i = k
    · subst e
      exact h2
    · exact h1 i (by omega)

theorem CutTo.mono {L : List (List UInt8)} {k j : Nat} (h : CutTo L k) (hj : j ≤ k) : CutTo L j := fun i hi => h i (by omega)

set_option maxRecDepth 100000 in
set_option maxHeartbeats 4000000 in
theorem refCutN_any (v : Value) (L : List (List UInt8)) (w : World) (hr : RdL w v L) :
    Calls Tryz.prog 20 #[v] w fun e w' => e = .returned (.bool (decide (CutOk L))) ∧ w' = w := by
  obtain ⟨ao, cap, rfl, hlc, hcm, -, hao⟩ := hr
  have hml : (L.length : Int) ≤ 9223372036854775807 := by unfold maxLen at hcm; omega
  have HAO := hide hao
  clear hao hlc hcm
  obtain ⟨D, hD⟩ : ∃ D, D = decide (CutOk L) := ⟨_, rfl⟩
  rw [← hD]
  have HDT : Hid (CutTo L L.length → D = true) := fun h => by rw [hD]; exact decide_eq_true ((cutOk_ref L).2 h)
  have HDF : Hid (∀ k, k ≤ L.length → ¬ CutTo L k → D = false) := fun k hk h => by rw [hD]; exact decide_eq_false (fun hf => h (CutTo.mono ((cutOk_ref L).1 hf) hk))
  have HP0 : Hid (CutTo L 0) := fun i hi => absurd hi (Nat.not_lt_zero _)
  clear hD
  go_enter Tryz.func20, Tryz.ntmps20
  go_wp2
  go_loopw [3] (fun vi wr => ∃ k : Nat, vi = .int .i64 (k : Int) ∧ k ≤ L.length ∧ Hid (CutTo L k) ∧ wr = w) (fun vi _ => L.length - (intOf vi).toNat)
  case atStart => exact ⟨0, rfl, Nat.zero_le _, HP0, rfl⟩
  case round =>
    obtain ⟨k, rfl, hk, hP, hwr⟩ := hrel
    have hwr2 := hwr.symm
    subst hwr2
    clear hwr
    by_cases hlt : k < L.length
    case neg =>
      obtain rfl : k = L.length := by omega
      have HT := hide (HDT.out hP.out)
      go_wp2
      go_ret
      rw [HT.out]
      exact ⟨rfl, rfl⟩
    rcases HAO.out with h0 | ⟨c, off, rfl, hc⟩
    · rw [h0] at hlt; simp at hlt
    obtain ⟨x, c0, hrx⟩ := hc k hlt
    have hxm : ((L.getD k []).length : Int) ≤ 9223372036854775807 := by
      obtain ⟨_, xc, _, h1, h2, _⟩ := hrx
      unfold maxLen at h2
      omega
    obtain ⟨xa, xc, hx, -⟩ := hrx
    subst hx
    have HPN := hide (CutTo.next (L := L) (k := k))
    have HDK : Hid (¬ CutTo L (k + 1) → D = false) := hide (HDF.out (k + 1) (by omega))
    clear hc HDF
    generalize (L.getD k []).length = n at *
    have hki : (k : Int) < (L.length : Int) := by omega
    by_cases h1 : 64 < n
    · have h1' : 64 < (n : Int) := by omega
      have HD := hide (HDK.out (fun h => by have := (HPN.out.1 h).2.2.1; omega))
      clear HPN HDK h1
      go_wp2
      go_ret
      rw [HD.out]
      exact ⟨rfl, rfl⟩
    have h1d : decide (64 < (n : Int)) = false := decide_eq_false (by omega)
    by_cases h2 : n < 1
    · have h2' : (n : Int) < 1 := by omega
      have HD := hide (HDK.out (fun h => by have := (HPN.out.1 h).2.1; omega))
      clear HPN HDK h1 h2
      go_wp2
      go_ret
      rw [HD.out]
      exact ⟨rfl, rfl⟩
    have h2d : decide ((n : Int) < 1) = false := decide_eq_false (by omega)
    by_cases h3 : n < 64
    · have h3' : (n : Int) < 64 := by omega
      by_cases h4 : k + 1 < L.length
      · have h4' : (k : Int) < (L.length : Int) - 1 := by omega
        have HD := hide (HDK.out (fun h => by have := (HPN.out.1 h).2.2.2 h4; omega))
        clear HPN HDK h1 h2 h3 h4
        go_wp2
        go_ret
        rw [HD.out]
        exact ⟨rfl, rfl⟩
      · have h4d : decide ((k : Int) < (L.length : Int) - 1) = false := decide_eq_false (by omega)
        have HP1 := hide (HPN.out.2 ⟨hP.out, by omega, by omega, fun h => absurd h h4⟩)
        clear HPN HDK h1 h2 h3 h4
        go_wp2
        go_roundw
        case rel => exact ⟨k + 1, by go_num, by omega, HP1, trivial⟩
        case measure => simp [intOf]; omega
    · have h3d : decide ((n : Int) < 64) = false := decide_eq_false (by omega)
      have HP1 := hide (HPN.out.2 ⟨hP.out, by omega, by omega, fun h => by omega⟩)
      clear HPN HDK h1 h2 h3
      go_wp2
      go_roundw
      case rel => exact ⟨k + 1, by go_num, by omega, HP1, trivial⟩
      case measure => simp [intOf]; omega

end Go.Proofs.YtanmjihiceibbaaGreat

/- append of bytes that tells which row alone it may change. -/
namespace Go.Proofs.YtanmjihiceibbaaGreat
open Go.RowKit

/-- append of bytes onto bytes of the call's own, telling which row alone it may change. -/
theorem run_append_rdg (w : World) (ty : TypeId) (B : Nat) (v : Value) (l0 : List UInt8) (hown : Own w B v l0) (vx : Value) (l : List UInt8) (hr : Rd w vx l)
    (hlim : l0.length + l.length ≤ 70368744177664) (hbase : B ≤ w.heap.size) :
    ∃ v' w', (Builtin.append_ #[22, 22] ty #[v, vx]).run Tryz.prog w = .ok v' w' ∧ Own w' B v' (l0 ++ l) ∧ w.grownBy w' v.ownBlock := by
  obtain ⟨i0, hi, hz0, hz1, hz2⟩ := info_parts info8
  obtain ⟨ao, cap, rfl, hlc, hcm, hn0, hao⟩ := hr
  cases ao with
  | none =>
    have hc := hn0 rfl
    subst hc
    have hl : l = [] := List.eq_nil_of_length_eq_zero (by omega)
    subst hl
    have hrun := run_append_owned_none (P := Tryz.prog) w B 22 ty 5 i0 1 Tryz.underlying22 hi v l0.length (Lib.byteCells l0) hown
    exact ⟨v, w, hrun, by rw [List.append_nil]; exact hown, ⟨rfl, rfl, rfl, Nat.le_refl _, fun _ _ _ => rfl⟩⟩
  | some a =>
    obtain ⟨v', w', hrun, ho, hg, _⟩ := run_append_own (P := Tryz.prog) w B 22 ty 5 i0 (.int .u8 0) 1 1 Tryz.underlying22 hi hz0 hz1 hz2 rfl (by decide) v l0.length (Lib.byteCells l0) hown a l.length cap (Lib.byteCells l)
      (by rw [byteCells_length, Nat.mul_one]) (Rd.cells hao a rfl) (byteCells_one l) (by unfold maxLen; omega) (by omega) hbase
    exact ⟨v', w', hrun, Own.mk' ho (by simp) (by simp [Lib.byteCells]), hg⟩

theorem wpList_append_rdg (w : World) {ops : Array Oper} {rest : List Oper} {o : Oper} {a : Act} {Q : Exit → Act → World → Prop} (hgd : o.guard = none) (s x : Operand)
    (ho : o.op = .call { callee := .builtin .append, args := #[s, x], argTypes := #[22, 22] })
    (B : Nat) (v : Value) (l0 : List UInt8) (hs : a.eval s = v) (hown : Own w B v l0) (vx : Value) (l : List UInt8) (hx : a.eval x = vx) (hr : Rd w vx l)
    (hlim : l0.length + l.length ≤ 70368744177664) (hbase : B ≤ w.heap.size)
    (h : ∀ v' w', Own w' B v' (l0 ++ l) → w.grownBy w' v.ownBlock → wpList Tryz.prog ops Q rest (a.put o.dst v') w') : wpList Tryz.prog ops Q (o :: rest) a w :=
  wpList_plain hgd fun _ hK => by
    obtain ⟨v', w', hrun, h2, h3⟩ := run_append_rdg w o.type B v l0 hown vx l hr hlim hbase
    unfold Oper.wp execOp
    simp only [ho, resolve, invoke, builtin, Sem.run_bind, Sem.run_pure, Result.andThen_ok, List.map_toArray, List.map_cons, List.map_nil, hs, hx, hrun]
    exact hK _ _ (h v' w' h2 h3)

end Go.Proofs.YtanmjihiceibbaaGreat

/- More of rows: two rows of one call kept apart; a cut of a slice of slices; a slice of slices that came in. -/
namespace Go.Proofs.YtanmjihiceibbaaGreat
open Go.RowKit Go.ChangeShapes

/-- Rows of two types lie apart. -/
theorem rows_apart {w : World} {B B' : Nat} {e1 e2 : TypeId} {v x : Value} {n m : Nat} {xs ys : List Value} (hne : e1 ≠ e2) (h1 : w.ownsRow B e1 1 v n xs) (h2 : w.ownsRow B' e2 1 x m ys) : x.ownBlock = none ∨ x.ownBlock ≠ v.ownBlock := by
  rcases h2.2 with ⟨hv, _⟩ | ⟨g, cap, cur, hv, _, hg, _⟩
  · exact .inl (by rw [hv]; rfl)
  · right
    rcases h1.2 with ⟨hv', _⟩ | ⟨g', cap', cur', hv', _, hg', _⟩
    · rw [hv, hv']
      exact fun e => by cases e
    · rw [hv, hv']
      intro e
      have e' : g = g' := by simpa [Value.ownBlock] using e
      rw [e', hg'] at hg
      have h3 : e1 = e2 := by
        injection hg with hg
        injection hg
      exact hne h3

theorem elem_rows : Tryz.prog.elem 46 = 22 := by kernel_rfl

theorem size_bytes (w : World) : (sizeOf 22).run Tryz.prog w = .ok 1 w := by
  obtain ⟨i0, hi, _, hz1, _⟩ := info_parts info_bytes
  simp [sizeOf, typeInfo, hi, hz1]

theorem under_rows : Tryz.prog.underlying 46 = some (.slice (Tryz.prog.elem 46)) := by rw [elem_rows]; exact Tryz.underlying46

theorem run_cutL_h (w : World) (v : Value) (L : List (List UInt8)) (hr : RdL w v L) (k : IntKind) (j : Int) (h0 : 0 ≤ j) (h2 : j ≤ L.length) :
    ∃ v', (Instr.sliceAt 46 v none (some (.int k j)) none).run Tryz.prog w = .ok v' w ∧ RdL w v' (L.take j.toNat) := by
  have h := hr
  obtain ⟨ao, cap, rfl, hlc, _⟩ := hr
  refine ⟨.slice ao j.toNat cap, ?_, h.front j.toNat (by omega)⟩
  rw [run_sliceAt_slice w 46 _ _ _ _ under_rows, run_slice_h w 46 ao L.length cap under_rows k j h0 (by omega), elem_rows, size_bytes]
  show Result.ok (sliced ao 0 j.toNat cap 1) w = _
  unfold sliced
  have e : (if cap = 0 then ao else ao.map (·.add (0 * 1))) = ao := by
    split
    · rfl
    · cases ao <;> simp [Addr.add]
  rw [e, Nat.sub_zero, Nat.sub_zero]

theorem wpList_cutL (w : World) {ops : Array Oper} {rest : List Oper} {o : Oper} {a : Act} {Q : Exit → Act → World → Prop} (hgd : o.guard = none) (x : Operand) (lo hi mx : Option Operand)
    (ho : o.op = .slice 46 x lo hi mx) (L : List (List UInt8))
    (hrun : ∃ v', (Instr.sliceAt 46 (a.eval x) (lo.map a.eval) (hi.map a.eval) (mx.map a.eval)).run Tryz.prog w = .ok v' w ∧ RdL w v' L)
    (h : ∀ v', RdL w v' L → wpList Tryz.prog ops Q rest (a.put o.dst v') w) : wpList Tryz.prog ops Q (o :: rest) a w :=
  wpList_plain hgd fun _ hK => by
    obtain ⟨v', hrun, hr⟩ := hrun
    unfold Oper.wp execOp
    simp only [ho, hrun, Sem.run_bind, Sem.run_pure, Result.andThen_ok]
    exact hK _ _ (h v' hr)

theorem list_of {α : Type} (d : α) (P : Nat → α → Prop) : ∀ n : Nat, (∀ i, i < n → ∃ x, P i x) → ∃ L : List α, L.length = n ∧ ∀ i, i < n → P i (L.getD i d)
  | 0, _ => ⟨[], rfl, fun i hi => by omega⟩
  | n + 1, h => by
    obtain ⟨L, h1, h2⟩ := list_of d P n (fun i hi => h i (by omega))
    obtain ⟨x, hx⟩ := h n (by omega)
    refine ⟨L ++ [x], by simp [h1], fun i hi => ?_⟩
    by_cases e : i = n
    · subst e
      have e2 : (L ++ [x]).getD i d = x := by simp [List.getD, ← h1]
      rw [e2]
      exact hx
    · have e2 : (L ++ [x]).getD i d = L.getD i d := by
        simp [List.getD, List.getElem?_append_left (show i < L.length by omega)]
      rw [e2]
      exact h2 i (by omega)

/-- A slice of slices of bytes that came in, opened. -/
theorem open_rows {H : Type} {enc : TypeId × Value → H} {w : World} {held : Bool} {fuel : Nat} {a : Option Addr} {len cap : Nat} {x : DataW H × List MemPlace} (h : DataW.trod enc Tryz.prog w 0 (fun _ => true) held fuel 46 [.slice a len cap] = some x) :
    ∃ L, RdL w (.slice a len cap) L := by
  have hc1 : Tryz.prog.cellsOf 22 = 1 := by kernel_rfl
  have hc2 : Tryz.prog.cellsOf 5 = 1 := by kernel_rfl
  rcases DataW.trod_slice Tryz.underlying46 h with h0 | ⟨ad, len', cap', elems, rest, n, _, hcs, _, hb, hl, hm, hlen, hel, _⟩
  · have := h0.1
    simp at this
    obtain ⟨rfl, rfl, rfl⟩ := this
    exact ⟨[], RdL.nil _⟩
  · simp at hcs
    obtain ⟨rfl, rfl, rfl⟩ := hcs
    have each : ∀ i, i < len → ∃ l : List UInt8, ∃ y, w.cell? (ad.add i) = some y ∧ Rd w y l := by
      intro i hi
      have he := hel i hi
      rw [List.getElem?_eq_getElem (by omega), hc1, Nat.mul_one, Option.bind_eq_some_iff] at he
      obtain ⟨cs, hcs, hy⟩ := he
      rcases open_ints Tryz.underlying22 Tryz.underlying5 hc2 hy with ⟨rfl, _⟩ | ⟨x, l, c, zs, rfl, _, hl, hm, hz, _, hcell, hwz⟩
      · exact ⟨[], _, cell_of_cells?_one hcs, Rd.nil _⟩
      · exact ⟨_, _, cell_of_cells?_one hcs, Rd.ofRow hl hm (by simpa using hz) hcell hwz⟩
    obtain ⟨L, h1, h2⟩ := list_of [] _ len each
    refine ⟨L, some ad, cap, by rw [h1], by omega, hm, (fun e => by cases e), ?_⟩
    by_cases h0 : len = 0
    · exact .inl (List.eq_nil_of_length_eq_zero (by omega))
    · obtain ⟨b, off, spot⟩ := ad
      obtain ⟨y, hy, _⟩ := h2 0 (by omega)
      have hspot : spot = none := by simpa [Addr.add] using World.cell?_spot hy
      subst hspot
      refine .inr ⟨b, off, rfl, fun j hj => ?_⟩
      obtain ⟨y, hy, hr⟩ := h2 j (by omega)
      rw [Addr.add_lit] at hy
      exact ⟨y, hy, hr⟩

end Go.Proofs.YtanmjihiceibbaaGreat

/- Contract of ferrymanref09: Decode. -/
namespace Go.Proofs.YtanmjihiceibbaaGreat
open Go.RowKit

/-- The first k pieces, together. -/
def catL (P : List (List UInt8)) (k : Nat) : List UInt8 := (P.take k).flatten

theorem catL_next {P : List (List UInt8)} {k : Nat} (h : k < P.length) : catL P (k + 1) = catL P k ++ P.getD k [] := by
  unfold catL
  rw [List.take_add_one, List.flatten_append]
  simp [List.getD, h]

theorem catL_all {P : List (List UInt8)} {k : Nat} (h : P.length ≤ k) : catL P k = P.flatten := by
  unfold catL
  rw [List.take_of_length_le h]

theorem flatten_le : ∀ L : List (List UInt8), L.flatten.length ≤ (framesOf L).length
  | [] => by simp [framesOf]
  | x :: L => by
    have ih := flatten_le L
    rw [List.flatten_cons, framesOf_cons, List.length_append, List.length_append, frameOf_length]
    omega

theorem catL_le (P : List (List UInt8)) (k : Nat) : (catL P k).length ≤ P.flatten.length := by
  unfold catL
  have h : P.flatten = (P.take k).flatten ++ (P.drop k).flatten := by rw [← List.flatten_append, List.take_append_drop]
  rw [h, List.length_append]
  omega

/-- All but the first one of a slice of slices. -/
theorem run_cutL_1 (w : World) (ao : Option Addr) (n cap : Nat) (d : List UInt8) (P : List (List UInt8)) (hr : RdL w (.slice ao n cap) (d :: P)) :
    ∃ v', (Instr.sliceAt 46 (.slice ao n cap) (some (.int .i64 1)) none none).run Tryz.prog w = .ok v' w ∧ RdL w v' P := by
  obtain ⟨ao', cap', hv, hlc, hcm, hn0, h4⟩ := hr
  simp only [Value.slice.injEq] at hv
  obtain ⟨rfl, rfl, rfl⟩ := hv
  rcases h4 with h4 | ⟨b, off, rfl, h6⟩
  · cases h4
  rw [List.length_cons] at hlc
  have hlen : (d :: P).length = P.length + 1 := List.length_cons
  refine ⟨sliced (some ⟨b, off, none⟩) 1 (d :: P).length cap 1, ?_, ?_⟩
  · rw [run_sliceAt_slice w 46 _ _ _ _ under_rows, run_slice_l w 46 _ (d :: P).length cap under_rows .i64 1 (by decide) (by rw [hlen]; omega), elem_rows, size_bytes]
    rfl
  · have e : sliced (some ⟨b, off, none⟩) 1 (d :: P).length cap 1 = .slice (if cap = 1 then some ⟨b, off, none⟩ else some ⟨b, off + 1, none⟩) P.length (cap - 1) := by
      unfold sliced
      rw [hlen]
      simp [Addr.add]
    rw [e]
    refine ⟨_, cap - 1, rfl, by omega, by omega, (fun h => by split at h <;> cases h), ?_⟩
    by_cases hP : P = []
    · exact .inl hP
    · have hp0 : 0 < P.length := List.length_pos_iff.2 hP
      refine .inr ⟨b, off + 1, by rw [if_neg (by omega)], fun j hj => ?_⟩
      obtain ⟨x, hx, hrx⟩ := h6 (j + 1) (by rw [List.length_cons]; omega)
      have ea : off + 1 + j = off + (j + 1) := by omega
      have eg : (d :: P).getD (j + 1) [] = P.getD j [] := by simp [List.getD]
      rw [ea, ← eg]
      exact ⟨x, hx, hrx⟩

theorem partsD_eq (d : List UInt8) (P : List (List UInt8)) : partsD (d :: P) = if (maniL d).2.2.2 ≠ 0 then (zeroN, (maniL d).2.2.2)
    else if P.flatten.length ≠ (maniL d).2.1 then (zeroN, 16)
    else if ¬ CutOk P then (zeroN, 3)
    else if crcMore 0 P.flatten ≠ (maniL d).2.2.1 then (zeroN, 4)
    else if (readN P.flatten).2 ≠ 0 then (zeroN, (readN P.flatten).2)
    else if MayN ⟨((maniL d).1 : Nat), (readN P.flatten).1.st, (readN P.flatten).1.tab⟩ then (⟨((maniL d).1 : Nat), (readN P.flatten).1.st, (readN P.flatten).1.tab⟩, 0)
    else (zeroN, 1) := rfl

theorem small_of (c1 c2 c3 c4 : Prop) [Decidable c1] [Decidable c2] [Decidable c3] [Decidable c4] (x n s : Nat) (hx : x < 4611686018427387904) (hn : n < 4611686018427387904) (hs : ¬ c4 → s < 4294967296) (R : Nat × Nat × Nat × Int) (hR : R = if c1 then (0, 0, 0, 3) else if c2 then (0, 0, 0, 3) else if c3 then (0, 0, 0, 6) else if c4 then (0, 0, 0, 3) else (x, n, s, 0)) :
    R.1 < 4611686018427387904 ∧ R.2.1 < 4611686018427387904 ∧ R.2.2.1 < 4294967296 := by
  rw [hR]
  split
  · exact ⟨by decide, by decide, by decide⟩
  split
  · exact ⟨by decide, by decide, by decide⟩
  split
  · exact ⟨by decide, by decide, by decide⟩
  split
  · exact ⟨by decide, by decide, by decide⟩
  · rename_i h4
    exact ⟨hx, hn, hs h4⟩

theorem maniL_small (d : List UInt8) : (maniL d).1 < 4611686018427387904 ∧ (maniL d).2.1 < 4611686018427387904 ∧ (maniL d).2.2.1 < 4294967296 := by
  have hd : ∀ l : List UInt8, (dec62 l).1 < 4611686018427387904 := fun l => by
    rcases dec62_cases l with h | h
    · rw [h]; decide
    · exact h.1
  refine small_of _ _ _ _ _ _ _ (hd _) (hd _) (fun h4 => ?_) _ (maniL_eq d)
  have h5 := Decidable.not_not.1 h4
  have h6 := leNat_lt256 (d.drop (1 + (dec62 (d.drop 1)).2 + (dec62 (d.drop (1 + (dec62 (d.drop 1)).2))).2 + (dec62 (d.drop (1 + (dec62 (d.drop 1)).2 + (dec62 (d.drop (1 + (dec62 (d.drop 1)).2))).2))).2))
  rw [h5] at h6
  exact h6

set_option maxRecDepth 100000 in
set_option maxHeartbeats 8000000 in
theorem refDecodeN_any (v : Value) (b : List UInt8) (w : World) (hr : Rd w v b) (hlim : b.length ≤ 100000) :
    Calls Tryz.prog 7 #[v] w fun e w' => DecodedN w (decN b) e w' := by
  have HR := hide hr
  obtain ⟨va, vc, rfl⟩ : ∃ va vc, v = .slice va b.length vc := by
    obtain ⟨va, vc, rfl, _⟩ := hr
    exact ⟨va, vc, rfl⟩
  clear hr
  have HALL := hide (fun W h => refAll_any (.slice va b.length vc) b W h (by omega))
  have HW := hide (wholeF_all _ b (Nat.le_refl _))
  have HDE : Hid (decN b = if (allF b).2 ≠ 0 then (zeroN, (((allF b).2 : Nat) : Int)) else partsD (allF b).1) := hide (by
    unfold decN allF
    by_cases h : (wholeF b).2.2 = 0
    · rw [if_neg (Decidable.not_not.2 h), if_pos h, if_neg (by simp)]
    · rw [if_pos h, if_neg h, if_pos h])
  have HAW : Hid ((allF b).2 = 0 → framesOf (allF b).1 = b) := hide (fun h => by
    unfold allF at h ⊢
    by_cases h1 : (wholeF b).2.2 = 0
    · rw [if_pos h1]
      exact (HW.out h1).1
    · rw [if_neg h1] at h
      exact absurd h h1)
  generalize decN b = RN at *
  obtain ⟨⟨L, ne⟩, hAF⟩ : ∃ x, x = allF b := ⟨_, rfl⟩
  rw [← hAF] at HALL HDE HAW
  dsimp only at HALL HDE HAW
  clear hAF HW
  have HB0 : Hid (∀ X Y, Below w.heap.size w ((w.alloc X).alloc Y)) := fun X Y => ((Below.refl _ _).alloc (Nat.le_refl _) X).alloc (by simp) Y
  have HX0 : Hid (∀ cs ds, Bn ((w.alloc (.cells cs 29)).alloc (.cells ds 29)) w.heap.size cs) := fun cs ds => (Below.heap_alloc _ _ _ (by simp)).trans (heap_alloc_new w _)
  have HY0 : Hid (∀ cs ds, Bn ((w.alloc (.cells cs 29)).alloc (.cells ds 29)) (w.heap.size + 1) ds) := fun cs ds => new_two w _ _
  have hnRN : w.heap.size ≠ w.heap.size + 1 := by omega
  go_enter Tryz.func7, Tryz.ntmps7
  go_wp2_with fail
  refine (HALL.out _ (HR.out.below (HB0.out _ _) (Nat.le_refl _))).mono ?_
  rintro e W1 ⟨v1, rfl, ho1, hb1⟩
  have HX1 : Hid (Bn W1 w.heap.size _) := hide ((HX0.out _ _).below hb1 (Nat.le_refl _))
  have HY1 : Hid (Bn W1 (w.heap.size + 1) _) := hide ((HY0.out _ _).below hb1 (Nat.le_refl _))
  have HB1 := hide ((HB0.out _ _).trans (hb1.mono (HB0.out _ _).size))
  have HRL := hide ho1.rd
  obtain ⟨la, lc, hv1⟩ : ∃ la lc, v1 = .slice la L.length lc := by
    obtain ⟨a, c, h, -⟩ := ho1.rd
    exact ⟨a, c, h⟩
  subst hv1
  clear ho1 hb1 HB0 HX0 HY0 HALL HR
  by_cases h0 : ne = 0
  case neg =>
    have HF : Hid (RN = (zeroN, ((ne : Nat) : Int))) := hide (HDE.out.trans (if_pos h0))
    have hne : ((ne : Int) != 0) = true := by rw [bne_iff_ne]; omega
    clear h0 HDE HAW
    have HBS := hide (fun x0 x1 x2 x3 x4 x5 => belowSix HB1.out w.heap.size (Nat.le_refl _) x0 x1 x2 x3 x4 x5)
    unfold six at HBS
    obtain ⟨p0, f0⟩ := HX1.out.cell 0
    obtain ⟨p1, f1⟩ := HX1.out.cell 1
    obtain ⟨p2, f2⟩ := HX1.out.cell 2
    obtain ⟨p3, f3⟩ := HX1.out.cell 3
    obtain ⟨p4, f4⟩ := HX1.out.cell 4
    obtain ⟨p5, f5⟩ := HX1.out.cell 5
    obtain ⟨q0, -⟩ := HY1.out.cell 0
    obtain ⟨q1, -⟩ := HY1.out.cell 1
    obtain ⟨q2, -⟩ := HY1.out.cell 2
    obtain ⟨q3, -⟩ := HY1.out.cell 3
    obtain ⟨q4, -⟩ := HY1.out.cell 4
    obtain ⟨q5, -⟩ := HY1.out.cell 5
    go_wp2
    refine bodyPost_ret (v := .tuple #[.agg #[.int .i64 0, .int .i64 0, .slice none 0 0, .bool false, .int .i64 0, .slice none 0 0], .int .i64 ((ne : Nat) : Int)]) (by simp [results, Tryz.results7, go_sem, p0, p1, p2, p3, p4, p5]) rfl ?_
    rw [HF.out]
    exact DecodedN.zero ((ne : Nat) : Int) (HBS.out _ _ _ _ _ _)
  subst h0
  have HD1 := hide (HDE.out.trans (if_neg (fun h => h rfl)))
  have HFR := hide (HAW.out rfl)
  clear HDE HAW
  cases L with
  | nil =>
    have HF : Hid (RN = (zeroN, 16)) := hide HD1.out
    have HBS := hide (fun x0 x1 x2 x3 x4 x5 => belowSix HB1.out w.heap.size (Nat.le_refl _) x0 x1 x2 x3 x4 x5)
    unfold six at HBS
    obtain ⟨p0, f0⟩ := HX1.out.cell 0
    obtain ⟨p1, f1⟩ := HX1.out.cell 1
    obtain ⟨p2, f2⟩ := HX1.out.cell 2
    obtain ⟨p3, f3⟩ := HX1.out.cell 3
    obtain ⟨p4, f4⟩ := HX1.out.cell 4
    obtain ⟨p5, f5⟩ := HX1.out.cell 5
    obtain ⟨q0, -⟩ := HY1.out.cell 0
    obtain ⟨q1, -⟩ := HY1.out.cell 1
    obtain ⟨q2, -⟩ := HY1.out.cell 2
    obtain ⟨q3, -⟩ := HY1.out.cell 3
    obtain ⟨q4, -⟩ := HY1.out.cell 4
    obtain ⟨q5, -⟩ := HY1.out.cell 5
    go_wp2
    refine bodyPost_ret (v := .tuple #[.agg #[.int .i64 0, .int .i64 0, .slice none 0 0, .bool false, .int .i64 0, .slice none 0 0], .int .i64 16]) (by simp [results, Tryz.results7, go_sem, p0, p1, p2, p3, p4, p5]) rfl ?_
    rw [HF.out]
    exact DecodedN.zero 16 (HBS.out _ _ _ _ _ _)
  | cons d P =>
  have HD2 := hide (HD1.out.trans (partsD_eq d P))
  have HPL : Hid (P.flatten.length ≤ 100000) := hide (by
    have h1 := flatten_le (d :: P)
    rw [HFR.out, List.flatten_cons, List.length_append] at h1
    omega)
  obtain ⟨hx1, hx2, hx3⟩ := maniL_small d
  have HMA := hide (fun v W h => refMani_any v d W h)
  obtain ⟨⟨x, n, sm, er⟩, hML⟩ : ∃ m, m = maniL d := ⟨_, rfl⟩
  rw [← hML] at HD2 HMA hx1 hx2 hx3
  dsimp only at HD2 HMA hx1 hx2 hx3
  clear hML HD1 HFR
  have hlen : (d :: P).length = P.length + 1 := List.length_cons
  have hlz : (((d :: P).length : Int) == 0) = false := beq_eq_false_iff_ne.2 (by rw [hlen]; omega)
  have hlp : (0 : Int) < ((d :: P).length : Int) := by rw [hlen]; omega
  obtain ⟨c, off, hla, hc⟩ : ∃ c off, la = some ⟨c, off, none⟩ ∧ ∀ W, Below W1.heap.size W1 W → ∀ j, j < (d :: P).length → ∃ x, W.cell? ⟨c, off + j, none⟩ = some x ∧ Rd W x ((d :: P).getD j []) := by
    obtain ⟨a', c', hv, h1, h2, h3, h4⟩ := HRL.out
    simp only [Value.slice.injEq] at hv
    obtain ⟨rfl, _, rfl⟩ := hv
    rcases h4 with h4 | ⟨c, off, h5, h6⟩
    · cases h4
    · refine ⟨c, off, h5, fun W hW j hj => ?_⟩
      obtain ⟨x, hx, hrx⟩ := h6 j hj
      exact ⟨x, (hW.cell (World.block_lt_of_cell? _ _ hx)).trans hx, hrx.below hW (Nat.le_refl _)⟩
  subst hla
  have HC := hide hc
  obtain ⟨y0, hy0, hry⟩ := hc W1 (Below.refl _ _) 0 (by rw [hlen]; omega)
  rw [Nat.add_zero] at hy0
  have hg0 : (d :: P).getD 0 [] = d := rfl
  rw [hg0] at hry
  obtain ⟨ya, yc, hye⟩ : ∃ ya yc, y0 = .slice ya d.length yc := by
    obtain ⟨a, c, h, -⟩ := hry
    exact ⟨a, c, h⟩
  subst hye
  have HRY := hide hry
  obtain ⟨LL, hLL⟩ : ∃ LL, LL = (d :: P).length := ⟨_, rfl⟩
  have HRLL : Hid (RdL W1 (.slice (some ⟨c, off, none⟩) LL lc) (d :: P)) := hide (by rw [hLL]; exact HRL.out)
  rw [← hLL] at hlz hlp ⊢
  have HLL : Hid (LL = P.length + 1) := hide (hLL.trans hlen)
  clear hc hry hg0 hLL hlen HRL
  have hml : (LL : Int) ≤ 9223372036854775807 := by
    obtain ⟨_, cap, hv, h1, h2, _⟩ := HRLL.out
    simp only [Value.slice.injEq] at hv
    unfold maxLen at h2
    omega
  go_wp2_with fail
  refine (HMA.out _ _ HRY.out).mono ?_
  rintro e W2 ⟨rfl, hw2⟩
  rw [hw2]
  clear hw2 W2 HMA HRY hy0
  by_cases h0 : er = 0
  case neg =>
    have HF : Hid (RN = (zeroN, er)) := hide (HD2.out.trans (if_pos h0))
    have hne : (er != 0) = true := by rw [bne_iff_ne]; exact h0
    clear h0 HD2
    have HBS := hide (fun x0 x1 x2 x3 x4 x5 => belowSix HB1.out w.heap.size (Nat.le_refl _) x0 x1 x2 x3 x4 x5)
    unfold six at HBS
    obtain ⟨p0, f0⟩ := HX1.out.cell 0
    obtain ⟨p1, f1⟩ := HX1.out.cell 1
    obtain ⟨p2, f2⟩ := HX1.out.cell 2
    obtain ⟨p3, f3⟩ := HX1.out.cell 3
    obtain ⟨p4, f4⟩ := HX1.out.cell 4
    obtain ⟨p5, f5⟩ := HX1.out.cell 5
    obtain ⟨q0, -⟩ := HY1.out.cell 0
    obtain ⟨q1, -⟩ := HY1.out.cell 1
    obtain ⟨q2, -⟩ := HY1.out.cell 2
    obtain ⟨q3, -⟩ := HY1.out.cell 3
    obtain ⟨q4, -⟩ := HY1.out.cell 4
    obtain ⟨q5, -⟩ := HY1.out.cell 5
    go_wp2
    refine bodyPost_ret (v := .tuple #[.agg #[.int .i64 0, .int .i64 0, .slice none 0 0, .bool false, .int .i64 0, .slice none 0 0], .int .i64 er]) (by simp [results, Tryz.results7, go_sem, p0, p1, p2, p3, p4, p5]) rfl ?_
    rw [HF.out]
    exact DecodedN.zero er (HBS.out _ _ _ _ _ _)
  subst h0
  have HD3 := hide (HD2.out.trans (if_neg (fun h => h rfl)))
  clear HD2
  go_wp2
  go_loopw [11, 12] (fun vo vi wr => ∃ k : Nat, vi = .int .i64 ((k : Int) + 1) ∧ k ≤ P.length ∧ Hid (Own wr W1.heap.size vo (catL P k)) ∧ Hid (Below W1.heap.size W1 wr)) (fun _ vi _ => P.length + 1 - (intOf vi).toNat)
  case atStart => exact ⟨0, rfl, Nat.zero_le _, Own.nil _ _, Below.refl _ _⟩
  case round =>
    obtain ⟨k, rfl, hk, hO, hB⟩ := hrel
    by_cases hlt : k < P.length
    · have hqi : (k : Int) + 1 < (LL : Int) := by have := HLL.out; omega
      obtain ⟨y, hy, hry⟩ := HC.out wr hB.out (k + 1) (by rw [List.length_cons]; omega)
      have hg : (d :: P).getD (k + 1) [] = P.getD k [] := by simp [List.getD]
      rw [hg] at hry
      have hyi : ((k + 1 : Nat) : Int) = (k : Int) + 1 := by omega
      have HNX := hide (catL_next hlt)
      have hcl : (catL P k).length + (P.getD k []).length ≤ 100000 := by
        have h1 := catL_le P (k + 1)
        rw [HNX.out, List.length_append] at h1
        have := HPL.out
        omega
      obtain ⟨ya', yc', hye⟩ : ∃ ya yc, y = .slice ya (P.getD k []).length yc := by
        obtain ⟨a, c, h, -⟩ := hry
        exact ⟨a, c, h⟩
      subst hye
      have HRY := hide hry
      have HSZ := hide hB.out.size
      obtain ⟨oa, oc, hoe⟩ : ∃ oa oc, u11 = .slice oa (catL P k).length oc := by
        obtain ⟨a, c, h, -⟩ := hO.out.rd
        exact ⟨a, c, h⟩
      subst hoe
      have hadd : off + (k + 1) = off + k + 1 := by omega
      have hyb := hy
      rw [hadd] at hyb
      have htn : ((k : Int) + 1).toNat = k + 1 := by omega
      clear hry hg hadd
      generalize P.getD k [] = X at *
      generalize catL P k = CK at *
      go_wp2_with (at_builtin; refine wpList_append_rd _ rfl _ _ rfl W1.heap.size _ CK rfl hO.out _ X rfl HRY.out (by omega) HSZ.out ?_)
      intro v5 W5 ho5 hb5
      rw [← HNX.out] at ho5
      have HO5 := hide ho5
      have HB5 := hide (hB.out.trans hb5)
      clear ho5 hb5 hO hB hy hyb
      go_wp2
      go_roundw
      case rel => exact ⟨k + 1, by go_num, by omega, HO5, HB5⟩
      case measure => simp [intOf]; omega
    have hqi : ¬ (k : Int) + 1 < (LL : Int) := by have := HLL.out; omega
    have HCA := hide (catL_all (P := P) (k := k) (by omega))
    rw [HCA.out] at hO
    have HXW : Hid (Bn wr w.heap.size _) := hide (HX1.out.below hB.out (Nat.le_refl _))
    have HYW : Hid (Bn wr (w.heap.size + 1) _) := hide (HY1.out.below hB.out (Nat.le_refl _))
    have HBW := hide (HB1.out.trans (hB.out.mono HB1.out.size))
    have HRWL := hide (HRLL.out.below hB.out (Nat.le_refl _))
    have HOW := hide hO.out.rd
    have HSM := hide (fun v W h => refSum_any v P.flatten W h)
    have HRN := hide (fun v W h => refReadN_any v P.flatten W h HPL.out)
    have HCU := hide (fun v W h => refCutN_any v P W h)
    have HC1 := hide (run_cutL_1 wr (some ⟨c, off, none⟩) LL lc d P HRWL.out)
    have hcr := crc_lt P.flatten
    have HMY := hide (fun v s W h => refMayN_any v s W h)
    clear HC HRLL HX1 HY1 HB1 HRWL hB hO HCA
    generalize P.flatten = WH at *
    obtain ⟨oa, oc, hoe⟩ : ∃ oa oc, u11 = .slice oa WH.length oc := by
      obtain ⟨a, c, h, -⟩ := HOW.out
      exact ⟨a, c, h⟩
    subst hoe
    by_cases h1 : WH.length = n
    case neg =>
      have HF : Hid (RN = (zeroN, 16)) := hide (HD3.out.trans (if_pos h1))
      have hne : ((WH.length : Int) != (n : Int)) = true := by rw [bne_iff_ne]; omega
      clear h1 HD3
      have HBS := hide (fun x0 x1 x2 x3 x4 x5 => belowSix HBW.out w.heap.size (Nat.le_refl _) x0 x1 x2 x3 x4 x5)
      unfold six at HBS
      obtain ⟨p0, f0⟩ := HXW.out.cell 0
      obtain ⟨p1, f1⟩ := HXW.out.cell 1
      obtain ⟨p2, f2⟩ := HXW.out.cell 2
      obtain ⟨p3, f3⟩ := HXW.out.cell 3
      obtain ⟨p4, f4⟩ := HXW.out.cell 4
      obtain ⟨p5, f5⟩ := HXW.out.cell 5
      obtain ⟨q0, -⟩ := HYW.out.cell 0
      obtain ⟨q1, -⟩ := HYW.out.cell 1
      obtain ⟨q2, -⟩ := HYW.out.cell 2
      obtain ⟨q3, -⟩ := HYW.out.cell 3
      obtain ⟨q4, -⟩ := HYW.out.cell 4
      obtain ⟨q5, -⟩ := HYW.out.cell 5
      go_wp2
      refine bodyPost_ret (v := .tuple #[.agg #[.int .i64 0, .int .i64 0, .slice none 0 0, .bool false, .int .i64 0, .slice none 0 0], .int .i64 16]) (by simp [results, Tryz.results7, go_sem, p0, p1, p2, p3, p4, p5]) rfl ?_
      rw [HF.out]
      exact DecodedN.zero 16 (HBS.out _ _ _ _ _ _)
    have hne1 : ((WH.length : Int) != (n : Int)) = false := by rw [bne_eq_false_iff_eq]; omega
    have HD4 := hide (HD3.out.trans (if_neg (fun h => h h1)))
    clear h1 HD3
    go_wp2_with (refine wpList_cutL _ rfl _ _ _ _ rfl _ HC1.out ?_)
    intro v6 hr6
    have HR6 := hide hr6
    clear hr6 HC1
    go_wp2_with fail
    refine (HCU.out _ _ HR6.out).mono ?_
    rintro e W6 ⟨rfl, hw6⟩
    rw [hw6]
    clear hw6 W6 HCU HR6
    by_cases h2 : CutOk P
    case neg =>
      have HF : Hid (RN = (zeroN, 3)) := hide (HD4.out.trans (if_pos h2))
      rw [decide_eq_false h2]
      clear h2 HD4
      have HBS := hide (fun x0 x1 x2 x3 x4 x5 => belowSix HBW.out w.heap.size (Nat.le_refl _) x0 x1 x2 x3 x4 x5)
      unfold six at HBS
      obtain ⟨p0, f0⟩ := HXW.out.cell 0
      obtain ⟨p1, f1⟩ := HXW.out.cell 1
      obtain ⟨p2, f2⟩ := HXW.out.cell 2
      obtain ⟨p3, f3⟩ := HXW.out.cell 3
      obtain ⟨p4, f4⟩ := HXW.out.cell 4
      obtain ⟨p5, f5⟩ := HXW.out.cell 5
      obtain ⟨q0, -⟩ := HYW.out.cell 0
      obtain ⟨q1, -⟩ := HYW.out.cell 1
      obtain ⟨q2, -⟩ := HYW.out.cell 2
      obtain ⟨q3, -⟩ := HYW.out.cell 3
      obtain ⟨q4, -⟩ := HYW.out.cell 4
      obtain ⟨q5, -⟩ := HYW.out.cell 5
      go_wp2
      refine bodyPost_ret (v := .tuple #[.agg #[.int .i64 0, .int .i64 0, .slice none 0 0, .bool false, .int .i64 0, .slice none 0 0], .int .i64 3]) (by simp [results, Tryz.results7, go_sem, p0, p1, p2, p3, p4, p5]) rfl ?_
      rw [HF.out]
      exact DecodedN.zero 3 (HBS.out _ _ _ _ _ _)
    rw [decide_eq_true h2]
    have HD5 := hide (HD4.out.trans (if_neg (fun h => h h2)))
    clear h2 HD4
    obtain ⟨SI, hSI⟩ : ∃ SI : Int, SI = ((crcMore 0 WH : Nat) : Int) := ⟨_, rfl⟩
    obtain ⟨SM, hSM⟩ : ∃ SM : Int, SM = ((sm : Nat) : Int) := ⟨_, rfl⟩
    rw [← hSI] at HSM
    have hs0 : 0 ≤ SI := by omega
    have hs1 : SI < 4294967296 := by omega
    have HSS : Hid (SI = SM ↔ crcMore 0 WH = sm) := hide (by rw [hSI, hSM]; omega)
    rw [← hSM]
    clear hSI hSM hcr
    go_wp2_with fail
    refine (HSM.out _ _ HOW.out).mono ?_
    rintro e W6 ⟨rfl, hw6⟩
    rw [hw6]
    clear hw6 W6 HSM
    by_cases h3 : SI = SM
    case neg =>
      have HF : Hid (RN = (zeroN, 4)) := hide (HD5.out.trans (if_pos (fun h => h3 (HSS.out.2 h))))
      have hne : (SI != SM) = true := by rw [bne_iff_ne]; exact h3
      clear h3 HD5
      have HBS := hide (fun x0 x1 x2 x3 x4 x5 => belowSix HBW.out w.heap.size (Nat.le_refl _) x0 x1 x2 x3 x4 x5)
      unfold six at HBS
      obtain ⟨p0, f0⟩ := HXW.out.cell 0
      obtain ⟨p1, f1⟩ := HXW.out.cell 1
      obtain ⟨p2, f2⟩ := HXW.out.cell 2
      obtain ⟨p3, f3⟩ := HXW.out.cell 3
      obtain ⟨p4, f4⟩ := HXW.out.cell 4
      obtain ⟨p5, f5⟩ := HXW.out.cell 5
      obtain ⟨q0, -⟩ := HYW.out.cell 0
      obtain ⟨q1, -⟩ := HYW.out.cell 1
      obtain ⟨q2, -⟩ := HYW.out.cell 2
      obtain ⟨q3, -⟩ := HYW.out.cell 3
      obtain ⟨q4, -⟩ := HYW.out.cell 4
      obtain ⟨q5, -⟩ := HYW.out.cell 5
      go_wp2
      refine bodyPost_ret (v := .tuple #[.agg #[.int .i64 0, .int .i64 0, .slice none 0 0, .bool false, .int .i64 0, .slice none 0 0], .int .i64 4]) (by simp [results, Tryz.results7, go_sem, p0, p1, p2, p3, p4, p5]) rfl ?_
      rw [HF.out]
      exact DecodedN.zero 4 (HBS.out _ _ _ _ _ _)
    have hne3 : (SI != SM) = false := by rw [bne_eq_false_iff_eq]; exact h3
    have HD6 := hide (HD5.out.trans (if_neg (fun h => h (HSS.out.1 h3))))
    clear h3 HD5 HSS
    generalize readN WH = RD at *
    obtain ⟨⟨ix, ⟨kd, Lx, sh, en⟩, tt⟩, g⟩ := RD
    dsimp only at HD6
    go_wp2_with fail
    refine (HRN.out _ _ HOW.out).mono ?_
    rintro e W7 ⟨vl, vt, rfl, hl7, hk7, he7, ht7, hi7, hf7, hg7, hb7⟩
    dsimp only at hl7 hk7 he7 ht7 hi7 ⊢
    obtain ⟨la, lb, hvl⟩ : ∃ la lc, vl = .slice la Lx.length lc := by
      obtain ⟨a, c, h, -⟩ := hl7
      exact ⟨a, c, h⟩
    obtain ⟨ta, tc, hvt⟩ := ht7.shape
    subst hvl hvt
    have HL7 := hide hl7
    have HK7 := hide hk7
    have HE7 := hide he7
    have HT7 := hide ht7
    have HF7 := hide hf7
    have HG7 := hide hg7
    have HX7 : Hid (Bn W7 w.heap.size _) := hide (HXW.out.below hb7 (Nat.le_refl _))
    have HY7 : Hid (Bn W7 (w.heap.size + 1) _) := hide (HYW.out.below hb7 (Nat.le_refl _))
    have HB7 := hide (HBW.out.trans (hb7.mono HBW.out.size))
    have HZ7 := hide hb7.size
    have HZW : Hid (w.heap.size + 1 < wr.heap.size) := hide HYW.out.lt
    clear hl7 hk7 he7 ht7 hi7 hf7 hg7 hb7 HRN HOW HXW HYW HBW
    have HBA : Hid (∀ X, Below W7.heap.size W7 (W7.alloc X)) := fun X => (Below.refl _ _).alloc (Nat.le_refl _) X
    have HXS : Hid (∀ cs, Bn (W7.alloc (.cells cs 29)) W7.heap.size cs) := fun cs => heap_alloc_new W7 _
    obtain ⟨W8, hW8⟩ : ∃ W8, W8 = W7.alloc (.cells #[.int .i64 ix, .int .i64 kd, .slice la Lx.length lb, .bool sh, .int .i64 en, .slice ta tt.length tc] 29) := ⟨_, rfl⟩
    have hx8 := HXS.out #[.int .i64 ix, .int .i64 kd, .slice la Lx.length lb, .bool sh, .int .i64 en, .slice ta tt.length tc]
    have hb8 := HBA.out (.cells #[.int .i64 ix, .int .i64 kd, .slice la Lx.length lb, .bool sh, .int .i64 en, .slice ta tt.length tc] 29)
    rw [← hW8] at hx8 hb8
    have HX8 : Hid (Bn W8 w.heap.size _) := hide (HX7.out.below hb8 (Nat.le_refl _))
    have HY8 : Hid (Bn W8 (w.heap.size + 1) _) := hide (HY7.out.below hb8 (Nat.le_refl _))
    have HB8 := hide (HB7.out.trans (hb8.mono HB7.out.size))
    have HS8 := hide hx8
    have HBB8 := hide hb8
    have HW8 := hide hW8
    clear hx8 hb8 hW8 HXS HBA
    by_cases h4 : g = 0
    case neg =>
      have HF : Hid (RN = (zeroN, g)) := hide (HD6.out.trans (if_pos h4))
      have hne : (g != 0) = true := by rw [bne_iff_ne]; exact h4
      clear h4 HD6
      go_upto_region 23 with fail
      rw [← HW8.out]
      have HBS := hide (fun x0 x1 x2 x3 x4 x5 => belowSix HB8.out w.heap.size (Nat.le_refl _) x0 x1 x2 x3 x4 x5)
      unfold six at HBS
      obtain ⟨p0, f0⟩ := HX8.out.cell 0
      obtain ⟨p1, f1⟩ := HX8.out.cell 1
      obtain ⟨p2, f2⟩ := HX8.out.cell 2
      obtain ⟨p3, f3⟩ := HX8.out.cell 3
      obtain ⟨p4, f4⟩ := HX8.out.cell 4
      obtain ⟨p5, f5⟩ := HX8.out.cell 5
      obtain ⟨q0, -⟩ := HY8.out.cell 0
      obtain ⟨q1, -⟩ := HY8.out.cell 1
      obtain ⟨q2, -⟩ := HY8.out.cell 2
      obtain ⟨q3, -⟩ := HY8.out.cell 3
      obtain ⟨q4, -⟩ := HY8.out.cell 4
      obtain ⟨q5, -⟩ := HY8.out.cell 5
      go_wp2
      refine bodyPost_ret (v := .tuple #[.agg #[.int .i64 0, .int .i64 0, .slice none 0 0, .bool false, .int .i64 0, .slice none 0 0], .int .i64 g]) (by simp [results, Tryz.results7, go_sem, p0, p1, p2, p3, p4, p5]) rfl ?_
      rw [HF.out]
      exact DecodedN.zero g (HBS.out _ _ _ _ _ _)
    subst h4
    have HD7 := hide (HD6.out.trans (if_neg (fun h => h rfl)))
    clear HD6
    go_upto_region 23 with fail
    rw [← HW8.out]
    obtain ⟨s0, g0⟩ := HS8.out.cell 0
    go_upto_region 26 with fail
    obtain ⟨W9, hW9⟩ : ∃ W9, W9 = W8.setCell ⟨W7.heap.size, 0, none⟩ (.int .i64 (x : Nat)) := ⟨_, rfl⟩
    rw [← hW9]
    have hbt9 : But W7.heap.size W7.heap.size W8 W9 := by rw [hW9]; exact (But.refl _ _ _).set _ _ (.inl rfl) _
    have hs9 : Bn W9 W7.heap.size #[.int .i64 (x : Nat), .int .i64 kd, .slice la Lx.length lb, .bool sh, .int .i64 en, .slice ta tt.length tc] := by rw [hW9]; exact HS8.out.set 0 _
    have HL9 := hide ((HL7.out.below HBB8.out (Nat.le_refl _)).but hbt9 (by
      rcases HL7.out.old with h | h
      · exact .inl h
      · exact .inr fun b hb => by have := h b hb; omega))
    have HT9 := hide ((HT7.out.below HBB8.out (Nat.le_refl _)).but hbt9 (by
      rcases HT7.out.block with h | h
      · exact .inl h
      · exact .inr fun b hb => by have := h b hb; omega))
    have hx1' : I64 ((x : Nat) : Int) := ⟨by omega, by omega⟩
    have HXI := hide hx1'
    have HSV : Hid (SnV W9 (.agg #[.int .i64 (x : Nat), .int .i64 kd, .slice la Lx.length lb, .bool sh, .int .i64 en, .slice ta tt.length tc]) ⟨(x : Nat), ⟨kd, Lx, sh, en⟩, tt⟩) := hide ⟨_, _, rfl, HL9.out, HK7.out, HE7.out, HT9.out, hx1'⟩
    have hne7 : w.heap.size ≠ W7.heap.size := by have := HX7.out.lt; omega
    have hne8 : w.heap.size + 1 ≠ W7.heap.size := by have := HY7.out.lt; omega
    have HX9 : Hid (Bn W9 w.heap.size _) := hide (by rw [hW9]; exact HX8.out.other 0 _ hne7)
    have HY9 : Hid (Bn W9 (w.heap.size + 1) _) := hide (by rw [hW9]; exact HY8.out.other 0 _ hne8)
    have HB9 := hide (below_but HB8.out hbt9 HB8.out.size (by have := HB7.out.size; omega) (by have := HB7.out.size; omega))
    have HS9 := hide hs9
    obtain ⟨s0', -⟩ := hs9.cell 0
    obtain ⟨s1', -⟩ := hs9.cell 1
    obtain ⟨s2', -⟩ := hs9.cell 2
    obtain ⟨s3', -⟩ := hs9.cell 3
    obtain ⟨s4', -⟩ := hs9.cell 4
    obtain ⟨s5', -⟩ := hs9.cell 5
    have HMZ := hide (HMY.out _ _ _ HSV.out)
    clear hW9 hbt9 hs9 HX8 HY8 HB8 HS8 HBB8 s0 g0 HL7 HT7 HX7 HY7 HB7 HMY HSV
    go_wp2_with fail
    refine HMZ.out.mono ?_
    rintro e W10 ⟨rfl, hb10⟩
    have HX10 : Hid (Bn W10 w.heap.size _) := hide (HX9.out.below hb10 (Nat.le_refl _))
    have HY10 : Hid (Bn W10 (w.heap.size + 1) _) := hide (HY9.out.below hb10 (Nat.le_refl _))
    have HB10 := hide (HB9.out.trans (hb10.mono HB9.out.size))
    have hs10 : Bn W10 W7.heap.size _ := HS9.out.below hb10 (Nat.le_refl _)
    have HL10 := hide (HL9.out.below hb10 (Nat.le_refl _))
    have HT10 := hide (HT9.out.below hb10 (Nat.le_refl _))
    obtain ⟨t0, -⟩ := hs10.cell 0
    obtain ⟨t1, -⟩ := hs10.cell 1
    obtain ⟨t2, -⟩ := hs10.cell 2
    obtain ⟨t3, -⟩ := hs10.cell 3
    obtain ⟨t4, -⟩ := hs10.cell 4
    obtain ⟨t5, -⟩ := hs10.cell 5
    clear hb10 hs10 HX9 HY9 HB9 HS9 HL9 HT9 HMZ s0' s1' s2' s3' s4' s5'
    by_cases h5 : MayN ⟨(x : Nat), ⟨kd, Lx, sh, en⟩, tt⟩
    case neg =>
      have HF : Hid (RN = (zeroN, 1)) := hide (HD7.out.trans (if_neg h5))
      rw [decide_eq_false h5]
      clear h5 HD7
      have HBS := hide (fun x0 x1 x2 x3 x4 x5 => belowSix HB10.out w.heap.size (Nat.le_refl _) x0 x1 x2 x3 x4 x5)
      unfold six at HBS
      obtain ⟨p0, f0⟩ := HX10.out.cell 0
      obtain ⟨p1, f1⟩ := HX10.out.cell 1
      obtain ⟨p2, f2⟩ := HX10.out.cell 2
      obtain ⟨p3, f3⟩ := HX10.out.cell 3
      obtain ⟨p4, f4⟩ := HX10.out.cell 4
      obtain ⟨p5, f5⟩ := HX10.out.cell 5
      obtain ⟨q0, -⟩ := HY10.out.cell 0
      obtain ⟨q1, -⟩ := HY10.out.cell 1
      obtain ⟨q2, -⟩ := HY10.out.cell 2
      obtain ⟨q3, -⟩ := HY10.out.cell 3
      obtain ⟨q4, -⟩ := HY10.out.cell 4
      obtain ⟨q5, -⟩ := HY10.out.cell 5
      go_wp2
      refine bodyPost_ret (v := .tuple #[.agg #[.int .i64 0, .int .i64 0, .slice none 0 0, .bool false, .int .i64 0, .slice none 0 0], .int .i64 1]) (by simp [results, Tryz.results7, go_sem, p0, p1, p2, p3, p4, p5]) rfl ?_
      rw [HF.out]
      exact DecodedN.zero 1 (HBS.out _ _ _ _ _ _)
    rw [decide_eq_true h5]
    have HF : Hid (RN = (⟨(x : Nat), ⟨kd, Lx, sh, en⟩, tt⟩, 0)) := hide (HD7.out.trans (if_pos h5))
    have HBS := hide (fun x0 x1 x2 x3 x4 x5 => belowSix HB10.out w.heap.size (Nat.le_refl _) x0 x1 x2 x3 x4 x5)
    have HBT := hide (fun x0 x1 x2 x3 x4 x5 => butSix W10 w.heap.size x0 x1 x2 x3 x4 x5)
    unfold six at HBS HBT
    obtain ⟨p0, f0⟩ := HX10.out.cell 0
    obtain ⟨p1, f1⟩ := HX10.out.cell 1
    obtain ⟨p2, f2⟩ := HX10.out.cell 2
    obtain ⟨p3, f3⟩ := HX10.out.cell 3
    obtain ⟨p4, f4⟩ := HX10.out.cell 4
    obtain ⟨p5, f5⟩ := HX10.out.cell 5
    clear h5 HD7
    go_wp2
    refine bodyPost_ret (v := .tuple #[.agg #[.int .i64 (x : Nat), .int .i64 kd, .slice la Lx.length lb, .bool sh, .int .i64 en, .slice ta tt.length tc], .int .i64 0]) (by simp [results, Tryz.results7, go_sem, p0, p1, p2, p3, p4, p5]) rfl ?_
    rw [HF.out]
    refine ⟨_, _, rfl, HL10.out.but (HBT.out _ _ _ _ _ _) (.inr fun b hb => ?_), HK7.out, HE7.out, HT10.out.but (HBT.out _ _ _ _ _ _) (.inr fun b hb => ?_), HXI.out, fun b hb => ?_, fun b hb => ?_, HBS.out _ _ _ _ _ _⟩
    · have := HF7.out b hb
      have := HZW.out
      omega
    · have := HG7.out b hb
      have := HZW.out
      omega
    · have := HF7.out b hb
      have := HZW.out
      omega
    · have := HG7.out b hb
      have := HZW.out
      omega

end Go.Proofs.YtanmjihiceibbaaGreat

