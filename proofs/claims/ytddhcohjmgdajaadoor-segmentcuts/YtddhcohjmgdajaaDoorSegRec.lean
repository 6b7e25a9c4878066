/- Contract of segment: Recover. -/
import Derived.Test.YtddhcohjmgdajaaDoorSegOwn
namespace Go.Proofs.YtddhcohjmgdajaaDoor
open Go.RowKit

theorem Bsg.set3 {w : World} {R : Nat} {a b c : Value} (h : Bsg w R #[a, b, c]) (x0 x1 x2 : Value) : Bsg (((w.setCell ⟨R, 0, none⟩ x0).setCell ⟨R, 1, none⟩ x1).setCell ⟨R, 2, none⟩ x2) R #[x0, x1, x2] := by
  have h0 := heap_setCell_same w R 0 _ _ x0 h
  have h1 := heap_setCell_same _ R 1 _ _ x1 h0
  have h2 := heap_setCell_same _ R 2 _ _ x2 h1
  unfold Bsg
  simpa using h2

theorem OwnL.set {w : World} {C : Nat} {v : Value} {L : List (List UInt8)} (h : OwnL w C v L) (R i : Nat) (hR : R < C) (x : Value) : OwnL (w.setCell ⟨R, i, none⟩ x) C v L := by
  obtain ⟨xs, h1, h2⟩ := h
  refine ⟨xs, ownsRow_setCell_below h1 hR x, fun j hj => ?_⟩
  obtain ⟨y, hy, ho⟩ := h2 j hj
  exact ⟨y, hy, ownsRow_setCell_below ho hR x⟩

set_option maxRecDepth 100000 in
set_option maxHeartbeats 1000000 in
theorem wholeO_any (v : Value) (l : List UInt8) (w : World) (hr : Rd w v l) (hlim : l.length ≤ 1000000) :
    Calls Tryd.prog 36 #[v] w fun e w' => ∃ v', e = .returned (.tuple #[v', .int .i64 ((wholeF l).2.1 : Nat)]) ∧ OwnL w' w.heap.size v' (wholeF l).1 ∧ Below w.heap.size w w' := by
  have HW := hide (begin_any v l w hr hlim)
  clear hr
  go_enter Tryd.func36, Tryd.ntmps36
  go_wp2_with fail
  refine HW.out.mono ?_
  rintro e w2 ⟨v2, rfl, ho2, hb2⟩
  have HO2 := hide ho2
  have HB2 := hide hb2
  clear ho2 hb2 HW
  obtain ⟨m, hm⟩ : ∃ m, m = (wholeF l).2.1 := ⟨_, rfl⟩
  have HM := hide hm
  rw [← hm]
  clear hm
  generalize (wholeF l).2.2 = c at *
  go_wp2
  go_ret2
  exact ⟨_, by rw [HM.out]; rfl, HO2.out, HB2.out⟩

set_option maxRecDepth 100000 in
set_option maxHeartbeats 8000000 in
theorem recoverG_any (vb : Value) (b : List UInt8) (w : World) (hr : Rd w vb b) (hlim : b.length ≤ 100000) (ht : TabF w) :
    Calls Tryd.prog 17 #[vb] w fun e w' => RecoveredG w b e w' := by
  have HB0 : Hid (∀ X, Below w.heap.size w (w.alloc X)) := fun X => (Below.refl _ _).alloc (Nat.le_refl _) X
  have X1 : Hid (∀ cs, Bsg (w.alloc (.cells cs 24)) w.heap.size cs) := fun cs => heap_alloc_new w _
  have HTB := hide (fun W (hb : Below w.heap.size w W) => ht.below hb (Nat.le_refl _))
  have HAL := hide (fun X => wholeO_any vb b (w.alloc X) (hr.below (HB0.out X) (Nat.le_refl _)) (by omega))
  obtain ⟨ab, cb, rfl, -⟩ := hr
  obtain ⟨hbd, hmany⟩ := wholeF_bounds b
  obtain ⟨hfr, -⟩ := wholeF_some _ b (Nat.le_refl _)
  have hfl : (framesOf (wholeF b).1).length ≤ 100000 := by
    rw [hfr, List.length_take]
    omega
  have HN0 := hide (fun h => recS8_walk (b := b) h)
  have HNN : Hid ((wholeF b).1 = [] → recS8 b = (zeroG, 0, false)) := hide (fun h => by unfold recS8 recL8; rw [if_pos h])
  generalize (wholeF b).2.1 = tk at *
  generalize (wholeF b).1 = L at *
  clear ht hfr
  by_cases h0 : L.length = 0
  · have e : L = [] := List.eq_nil_of_length_eq_zero h0
    have HN := hide (HNN.out e)
    have h0' : ((L.length : Int) == 0) = true := by rw [beq_iff_eq]; omega
    clear HN0 HNN hbd hmany hfl h0 e
    go_enter Tryd.func17, Tryd.ntmps17
    go_wp2_with fail
    refine (HAL.out _).mono ?_
    rintro e W1 ⟨v1, rfl, ho1, hb1⟩
    have HX1 := hide ((X1.out _).below hb1 (Nat.le_refl _))
    have HB1 := hide ((HB0.out _).trans (hb1.mono (HB0.out _).size))
    obtain ⟨a1, c1, rfl, -⟩ := ho1.rd
    clear hb1 HAL
    obtain ⟨r0, f0⟩ := HX1.out.cell 0
    obtain ⟨r1, f1⟩ := HX1.out.cell 1
    obtain ⟨r2, f2⟩ := HX1.out.cell 2
    go_wp2
    refine bodyPost_ret (v := .tuple #[.agg #[.int .i64 0, .int .i64 0, .slice none 0 0], .int .i64 0, .bool false]) (by simp [results, Tryd.results17, go_sem, r0, r1, r2]) rfl ?_
    exact RecoveredG.fail HN.out (belowThree HB1.out _ (Nat.le_refl _) _ _ _)
  have hne : L ≠ [] := fun e => h0 (by rw [e]; rfl)
  have h0' : ((L.length : Int) == 0) = false := beq_eq_false_iff_ne.2 (by omega)
  have HN := hide (HN0.out hne)
  have hhd : L.getD 0 [] = L.headD [] := by cases L <;> rfl
  have HRB := hide (fun v k f (hv1 : 1 ≤ v) (hv3 : v ≤ 3) (hf : f < 4611686018427387904) vp W (hb : Below w.heap.size w W) (h : RdL W vp L.tail) => readBlocks_any v k f hv1 hv3 hf vp L.tail W h (by rw [List.length_tail]; omega) (fun x hx => by have := hbd x (List.mem_of_mem_tail hx); omega) (HTB.out W hb))
  have HCNT : Hid (∀ v f, (walkB v f L.tail [] 16).2.1 + 1 ≤ L.length) := hide (fun v f => by
    have := walkB_count v f L.tail [] 16
    rw [List.length_tail] at this
    omega)
  have HSI := hide (fun c v1 W (h : RdL W v1 (L.take c)) => sizeG_any v1 (L.take c) W h (fun x hx => (hbd x (List.mem_of_mem_take hx)).1) (by have := framesOf_take L c; omega))
  have HRH := hide (fun v1 W (h : Rd W v1 (L.headD [])) => readHeadG_any v1 (L.headD []) W h)
  have HSG := hide (fun v k f a n c W => headSeg_any v k f a n c W)
  have hml : (L.length : Int) ≤ 100000 := by omega
  have hpos : (0 : Int) < (L.length : Int) := by omega
  unfold walkL at HN
  clear HN0 HNN hbd hfl hne hmany
  go_enter Tryd.func17, Tryd.ntmps17
  go_wp2_with fail
  refine (HAL.out _).mono ?_
  rintro e W1 ⟨v1, rfl, ho1, hb1⟩
  have HX1 := hide ((X1.out _).below hb1 (Nat.le_refl _))
  have HB1 := hide ((HB0.out _).trans (hb1.mono (HB0.out _).size))
  have HL1 := hide ho1.rd
  have HOL : Hid (OwnL W1 (w.heap.size + 1) v1 L) := hide (ho1.mono (by simp))
  obtain ⟨a1, c1, rfl, -⟩ := ho1.rd
  obtain ⟨b0, o0, x0, rfl, hx0, hxr0⟩ := HL1.out.at 0 (by omega)
  obtain ⟨am, cm, hrm, hcm⟩ := cutL_at W1 _ L L.length c1 rfl HL1.out 1 (by omega)
  have HCF := hide (fun q (hq : q ≤ L.length) => cutL_front W1 _ L L.length c1 rfl HL1.out q hq)
  rw [List.drop_one] at hrm hcm
  rw [hhd] at hxr0
  have km := hcm 1 rfl
  have HRM := hide hrm
  have hc0 := hx0 W1 (Below.refl _ _)
  have HX0 := hide (hxr0 W1 (Below.refl _ _))
  obtain ⟨a0, q0, hxe, -⟩ := hxr0 W1 (Below.refl _ _)
  subst hxe
  rw [Nat.add_zero] at hc0
  clear hb1 HAL hrm hcm hx0 hxr0 X1 HB0 hhd HL1
  generalize L.tail = B at *
  generalize L.headD [] = H at *
  generalize hHl : H.length = hl at *
  clear hHl
  go_wp2_with fail
  refine (HRH.out _ _ HX0.out).mono ?_
  rintro e W2 ⟨x, y, z, rfl, hxyz, hb2⟩
  have HXYZ := hide hxyz
  have HX2 := hide (HX1.out.below hb2 (Nat.le_refl _))
  have HB2 := hide (HB1.out.trans (hb2.mono HB1.out.size))
  have HB12 := hide hb2
  clear hxyz hb2 hc0 HX0 HX1 HRH
  obtain ⟨NA, hNA⟩ : ∃ N, N = W2.heap.size := ⟨_, rfl⟩
  obtain ⟨WA, hWA⟩ : ∃ V, V = W2.alloc (.cells #[.int .i64 x, .int .i64 y, .int .i64 z] 42) := ⟨_, rfl⟩
  have hbA : Below W2.heap.size W2 WA := by rw [hWA]; exact (Below.refl _ _).alloc (Nat.le_refl _) _
  have HHA : Hid (Bhd WA NA x y z) := hide (by rw [hWA, hNA]; exact heap_alloc_new W2 _)
  have HXA := hide (HX2.out.below hbA (Nat.le_refl _))
  have HBA := hide (HB2.out.trans (hbA.mono HB2.out.size))
  have HB1A := hide (HB12.out.trans (hbA.mono HB12.out.size))
  have hNA0 : w.heap.size < NA := by rw [hNA]; exact HX2.out.lt
  go_upto_region 5 with fail
  rw [← hWA, ← hNA]
  clear hWA hNA hbA HX2 HB2 HB12
  cases hrd : readH H with
  | error ex =>
    have HN2 : Hid (recS8 b = (zeroG, 0, false)) := hide (by rw [HN.out, hrd])
    have hx := readH_ne hrd
    have hx' : (ex != 0) = true := by rw [bne_iff_ne]; exact hx
    have e9 : errH (Except.error ex : Except Int (Nat × Nat × Nat)) = ex := rfl
    obtain ⟨r0, f0⟩ := HXA.out.cell 0
    obtain ⟨r1, f1⟩ := HXA.out.cell 1
    obtain ⟨r2, f2⟩ := HXA.out.cell 2
    rw [e9]
    clear e9 hrd hx HN HXYZ
    go_wp2
    refine bodyPost_ret (v := .tuple #[.agg #[.int .i64 0, .int .i64 0, .slice none 0 0], .int .i64 0, .bool false]) (by simp [results, Tryd.results17, go_sem, r0, r1, r2]) rfl ?_
    exact RecoveredG.fail HN2.out (belowThree HBA.out _ (Nat.le_refl _) _ _ _)
  | ok t =>
    obtain ⟨v, k, f⟩ := t
    obtain ⟨rfl, rfl, rfl⟩ := HXYZ.out v k f hrd
    obtain ⟨-, hv1, hv3, hk6, hf62⟩ := readH_sound hrd
    have HRB2 := hide (HRB.out v k f hv1 hv3 hf62)
    have hcn := HCNT.out v f
    rw [hrd] at HN
    have e9 : errH (Except.ok (v, k, f) : Except Int (Nat × Nat × Nat)) = 0 := rfl
    rw [e9]
    unfold BlocksRead at HRB2
    simp only at HN
    generalize walkB v f B [] 16 = T at *
    obtain ⟨recs, cnt, er⟩ := T
    simp only at HN HRB2 hcn
    obtain ⟨q, hq⟩ : ∃ q, q = 1 + cnt := ⟨_, rfl⟩
    obtain ⟨hrf, hcf⟩ := HCF.out q (by omega)
    have kf := hcf (1 + (cnt : Int)) (by omega)
    have HSI2 := hide (HSI.out q)
    have HPF : Hid (∀ W : World, OwnL W (w.heap.size + 1) (.slice (some ⟨b0, o0, none⟩) L.length c1) L → RdL W (.slice (some ⟨b0, o0, none⟩) q c1) (L.take q)) := hide (fun W h => h.rd.front q (by omega))
    have HRF := hide hrf
    have hcw : (1 : Int) + (cnt : Int) ≤ 100000 := by omega
    have hcw2 : IntKind.i64.wrap (1 + (cnt : Int)) = 1 + (cnt : Int) := by rw [IntKind.wrap_i64]; omega
    have hq2 : (1 : Int) + (cnt : Int) ≤ (L.length : Int) := by omega
    rw [← hq] at HN
    obtain ⟨SZ, hSZ⟩ : ∃ SZ, SZ = (framesOf (L.take q)).length := ⟨_, rfl⟩
    rw [← hSZ] at HN HSI2
    generalize L.take q = PF at *
    clear e9 hrd HXYZ HRB hv1 hv3 hk6 hf62 HSI HCF HCNT hrf hcf hcn hq hSZ
    generalize (v : Int) = V at *
    have HLT : Hid (w.heap.size < WA.heap.size) := hide (Nat.lt_trans hNA0 HHA.out.lt)
    have HKA : Hid (∀ W, Below WA.heap.size WA W → W.cell? ⟨NA, 0, none⟩ = some (.int .i64 V) ∧ W.cell? ⟨NA, 1, none⟩ = some (.int .i64 (k : Int)) ∧ W.cell? ⟨NA, 2, none⟩ = some (.int .i64 (f : Int))) := hide (fun W hb => (HHA.out.below hb HHA.out.lt).cell.1)
    have HBD : Hid (Below WA.heap.size WA WA.drew) := hide ((Below.refl _ _).drew)
    have HK0 := hide (HKA.out _ HBD.out)
    have HRMA := hide (HRM.out.below HB1A.out (Nat.le_refl _))
    go_upto_region 7 with fail
    go_cut [9, 10, 11] (fun vl vc ve wc => ∃ al nl cl, vl = .slice al nl cl ∧ vc = .int .i64 (cnt : Int) ∧ ve = .int .i64 er ∧ Hid (∀ r ∈ recs, RecOk r) ∧ Hid (OwnR wc WA.heap.size (.slice al nl cl) recs) ∧ Hid (Below WA.heap.size WA wc))
    case first =>
      go_region_held2 (fun W => W.cell? ⟨NA, 0, none⟩ = some (.int .i64 V) ∧ W.cell? ⟨NA, 1, none⟩ = some (.int .i64 (k : Int)) ∧ W.cell? ⟨NA, 2, none⟩ = some (.int .i64 (f : Int))) (first | exact HK0.out | exact HK3.out)
        (first
          | (go_at_call 38; refine (HRB2.out _ WA.drew HBA.out.drew (HRMA.out.below HBD.out (Nat.le_refl _))).mono ?_; rintro e W3 ⟨v3, rfl, hr3, hok3, hb3⟩; have HR3 : Hid (OwnR W3 WA.heap.size v3 recs) := hide hr3; have HOK3 := hide hok3; have HB3 := hide (HBD.out.trans hb3); have HK3 := hide (HKA.out W3 HB3.out); obtain ⟨a3, c3, rfl⟩ := hr3.shape; clear hb3 hr3 hok3))
      all_goals
        go_wp2_with fail
        go_meet
        exact ⟨_, _, _, rfl, rfl, rfl, HOK3, HR3, HB3⟩
    case rest =>
      obtain ⟨al, nl, cl, rfl, rfl, rfl, HOK3, HR3, HB3⟩ := hcut
      have HXC := hide (HXA.out.below HB3.out (Nat.le_refl _))
      have HHC := hide (HHA.out.below HB3.out HHA.out.lt)
      have HBC := hide (HBA.out.trans (HB3.out.mono HBA.out.size))
      have HB1C := hide (HB1A.out.trans (HB3.out.mono HB1A.out.size))
      have HKC : Hid (∀ W, Below wc.heap.size wc W → W.cell? ⟨NA, 0, none⟩ = some (.int .i64 V) ∧ W.cell? ⟨NA, 1, none⟩ = some (.int .i64 (k : Int)) ∧ W.cell? ⟨NA, 2, none⟩ = some (.int .i64 (f : Int))) := hide (fun W hb => (HHC.out.below hb HHC.out.lt).cell.1)
      have HBD2 : Hid (Below wc.heap.size wc wc.drew) := hide ((Below.refl _ _).drew)
      have HK1 := hide (HKC.out _ HBD2.out)
      have HRFC := hide (HRF.out.below HB1C.out (Nat.le_refl _))
      have HOLC := hide (HOL.out.below HB1C.out (Nat.le_refl _))
      have hneN : NA ≠ w.heap.size := by omega
      clear HXA HHA HBA HB1A HB3 HKA HBD HK0 HRMA HRB2 HRM HRF
      go_upto_region 8 with fail
      go_region_held (fun W => W.cell? ⟨NA, 0, none⟩ = some (.int .i64 V) ∧ W.cell? ⟨NA, 1, none⟩ = some (.int .i64 (k : Int)) ∧ W.cell? ⟨NA, 2, none⟩ = some (.int .i64 (f : Int))) (first | exact HK1.out | exact HK4.out | exact HKS.out | exact HK5.out | exact HK6.out | exact HKT.out)
        (first
          | (go_at_call 39; refine (HSG.out _ _ _ _ _ _ wc.drew).mono ?_; rintro e W4 ⟨rfl, hb4⟩; have HB4 := hide (HBD2.out.trans hb4); have HK4 := hide (HKC.out W4 HB4.out); have HX4 := hide (HXC.out.below HB4.out (Nat.le_refl _)); have HH4 := hide (HHC.out.below HB4.out HHC.out.lt); have HW4 := hide (HBC.out.trans (HB4.out.mono HBC.out.size)); have HO4 := hide (HR3.out.below HB4.out (Nat.le_refl _)); have HF4 := hide (HRFC.out.below HB4.out (Nat.le_refl _)); obtain ⟨r0, f0⟩ := HX4.out.cell 0; obtain ⟨r1, f1⟩ := HX4.out.cell 1; obtain ⟨r2, f2⟩ := HX4.out.cell 2; have HHS := hide (((HH4.out.other hneN 0 (.int .i64 (k : Int))).other hneN 1 (.int .i64 (f : Int))).other hneN 2 (.slice al nl cl)); have HKS := hide HHS.out.cell.1; have HOL4 := hide (HOLC.out.below HB4.out (Nat.le_refl _)); have HFS : Hid (RdL ((((W4.setCell ⟨w.heap.size, 0, none⟩ (.int .i64 (k : Int))).setCell ⟨w.heap.size, 1, none⟩ (.int .i64 (f : Int))).setCell ⟨w.heap.size, 2, none⟩ (.slice al nl cl))) _ PF) := hide (HPF.out _ (((HOL4.out.set w.heap.size 0 (Nat.lt_succ_self _) (.int .i64 (k : Int))).set w.heap.size 1 (Nat.lt_succ_self _) (.int .i64 (f : Int))).set w.heap.size 2 (Nat.lt_succ_self _) (.slice al nl cl))); have HXS := hide (HX4.out.set3 (.int .i64 (k : Int)) (.int .i64 (f : Int)) (.slice al nl cl)); have HOS := hide (((HO4.out.set w.heap.size 0 HLT.out (.int .i64 (k : Int))).set w.heap.size 1 HLT.out (.int .i64 (f : Int))).set w.heap.size 2 HLT.out (.slice al nl cl)); have HWS := hide (belowThree HW4.out w.heap.size (Nat.le_refl _) (.int .i64 (k : Int)) (.int .i64 (f : Int)) (.slice al nl cl)); clear hb4)
          | (go_at_call 40; refine (HSI2.out _ W4 HF4.out).mono ?_; rintro e W5 ⟨rfl, hb5⟩; have HK5 := hide (HH4.out.below hb5 HH4.out.lt).cell.1; have HX5 := hide (HX4.out.below hb5 (Nat.le_refl _)); have HW5 := hide (HW4.out.trans (hb5.mono HW4.out.size)); have HO5 := hide (HO4.out.below hb5 (Nat.le_refl _)); obtain ⟨s0, g0⟩ := HX5.out.cell 0; obtain ⟨s1, g1⟩ := HX5.out.cell 1; obtain ⟨s2, g2⟩ := HX5.out.cell 2; have HKT := hide ((((HH4.out.below hb5 HH4.out.lt).other hneN 0 (.int .i64 (k : Int))).other hneN 1 (.int .i64 (f : Int))).other hneN 2 (.slice al nl cl)).cell.1; clear hb5)
          | (go_at_call 40; refine (HSI2.out _ (((W4.setCell ⟨w.heap.size, 0, none⟩ (.int .i64 (k : Int))).setCell ⟨w.heap.size, 1, none⟩ (.int .i64 (f : Int))).setCell ⟨w.heap.size, 2, none⟩ (.slice al nl cl)) HFS.out).mono ?_; rintro e W6 ⟨rfl, hb6⟩; have HK6 := hide (HHS.out.below hb6 HHS.out.lt).cell.1; have HX6 := hide (HXS.out.below hb6 (Nat.le_refl _)); have HO6 := hide (HOS.out.below hb6 (Nat.le_refl _)); have HW6 := hide (HWS.out.trans (hb6.mono HWS.out.size)); obtain ⟨s0, g0⟩ := HX6.out.cell 0; obtain ⟨s1, g1⟩ := HX6.out.cell 1; obtain ⟨s2, g2⟩ := HX6.out.cell 2; clear hb6))
      all_goals
        go_wp2
        refine bodyPost_ret (v := .tuple #[.agg #[.int .i64 (k : Int), .int .i64 (f : Int), .slice al nl cl], .int .i64 (SZ : Int), .bool true]) (by simp [results, Tryd.results17, go_sem, s0, s1, s2]) rfl ?_
        refine ⟨.slice al nl cl, by rw [HN.out], ?_, ?_⟩
        · rw [HN.out]
          first
          | exact HO6.out.rd HOK3.out
          | exact OwnR.rd (((HO5.out.set w.heap.size 0 HLT.out _).set w.heap.size 1 HLT.out _).set w.heap.size 2 HLT.out _) HOK3.out
        · first
          | exact HW6.out
          | exact belowThree HW5.out w.heap.size (Nat.le_refl _) _ _ _

end Go.Proofs.YtddhcohjmgdajaaDoor
