/- Contracts of segment: heading.segment, read, Decode. -/
import Derived.Test.YtddhcohjmgdajaaDoorSegOwnH
import Derived.Deep.RegionHeld2
namespace Go.Proofs.YtddhcohjmgdajaaDoor
open Go.RowKit

set_option maxRecDepth 100000 in
theorem headSeg_any (v k f : Int) (a : Option Addr) (n c : Nat) (w : World) :
    Calls Tryd.prog 39 #[.agg #[.int .i64 v, .int .i64 k, .int .i64 f], .slice a n c] w fun e w' => e = .returned (.agg #[.int .i64 k, .int .i64 f, .slice a n c]) ∧ Below w.heap.size w w' := by
  have HB2 : Hid (∀ X Y, Below w.heap.size w ((w.alloc X).alloc Y)) := fun X Y => Below.allocs (Below.allocs (Below.refl _ _) X) Y
  go_enter Tryd.func39, Tryd.ntmps39
  go_wp2
  refine bodyPost_ret (v := .agg #[.int .i64 k, .int .i64 f, .slice a n c]) (by simp [results, Tryd.results39, go_sem]) rfl ⟨rfl, ?_⟩
  exact HB2.out _ _

/-- A cut of slices of bytes at both ends. -/
theorem cutL2_at (w : World) (ao : Option Addr) (L : List (List UInt8)) (m cap : Nat) (hm : m = L.length) (hr : RdL w (.slice ao m cap) L) (i n : Nat) (hn : i + n ≤ L.length) :
    ∃ a c, RdL w (.slice a ((L.drop i).take n).length c) ((L.drop i).take n) ∧ ∀ I J : Int, I = (i : Int) → J = ((i + n : Nat) : Int) → ∀ W, (Instr.sliceAt 49 (.slice ao m cap) (some (.int .i64 I)) (some (.int .i64 J)) none).run Tryd.prog W = .ok (.slice a ((L.drop i).take n).length c) W := by
  subst hm
  have hlc : L.length ≤ cap := by
    obtain ⟨a, c, e, h, -⟩ := hr
    simp only [Value.slice.injEq] at e
    omega
  have h := hr.mid i (i + n) cap (by omega) (by omega) (by omega) (Nat.le_refl _)
  have e1 : i + n - i = n := by omega
  have e2 : ((L.drop i).take n).length = n := by rw [List.length_take, List.length_drop]; omega
  rw [e1] at h
  unfold sliced at h
  rw [e1] at h
  refine ⟨_, _, by rw [e2]; exact h, fun I J hI hJ W => ?_⟩
  subst hI hJ
  rw [run_sliceAt_slice W 49 _ _ _ _ under_rows, run_slice_lh W 49 ao L.length cap under_rows .i64 .i64 (i : Int) ((i + n : Nat) : Int) (by omega) (by omega) (by omega), elem_rows, size_bytes]
  simp only [Int.toNat_natCast, e2]
  unfold sliced
  rw [e1]
  rfl

theorem mid_parts {L : List (List UInt8)} {n : Nat} (hn : L.length = n + 1) (h1 : 1 ≤ n) : (L.drop 1).take (n - 1) = L.tail.dropLast ∧ L.take n = L.headD [] :: L.tail.dropLast ∧ L.getLastD [] = L.getD n [] ∧ L.getD 0 [] = L.headD [] := by
  have e : L.length - 1 = n := by omega
  obtain ⟨e1, e2, e3, e4⟩ := tail_init (L := L) (by omega)
  rw [e] at e1 e2 e3 e4
  refine ⟨?_, ?_, e3, by cases L <;> rfl⟩
  · rw [List.drop_one, List.dropLast_eq_take, List.length_tail]
    congr 1
    omega
  · have hne : L.take n ≠ [] := fun h => by
      have := congrArg List.length h
      rw [List.length_take, List.length_nil] at this
      omega
    cases hx : L.take n with
    | nil => exact absurd hx hne
    | cons x t =>
      rw [hx] at e1 e2
      rw [← e1, ← e2]
      rfl

/-- Records that are read stay while a segment's box is written: they do not lie in it. -/
theorem RdR.bsg {w : World} {v : Value} {l : List Rec} (h : RdR w v l) {R : Nat} {cs : Array Value} (hb : Bsg w R cs) (hs : cs.size = 3) (x0 x1 x2 : Value) : RdR (((w.setCell ⟨R, 0, none⟩ x0).setCell ⟨R, 1, none⟩ x1).setCell ⟨R, 2, none⟩ x2) v l := by
  obtain ⟨ao, cap, h1, h2, h3, hn, hw, h4⟩ := h
  refine ⟨ao, cap, h1, h2, h3, hn, hw, ?_⟩
  rcases h4 with h4 | ⟨c, off, h5, h6⟩
  · exact .inl h4
  · refine .inr ⟨c, off, h5, fun j hj => ?_⟩
    have hc := h6 j hj
    have hne : c ≠ R := fun e => by
      obtain ⟨_, _, _, _, _, _, c6⟩ := hc
      rw [e, (hb.cell _).1] at c6
      rw [Array.getElem?_eq_none (by omega)] at c6
      cases c6
    exact hc.keep (((Below.heap_setCell _ _ _ _ hne).trans (Below.heap_setCell _ _ _ _ hne)).trans (Below.heap_setCell _ _ _ _ hne))

/-- What read answers. -/
def ReadG (w : World) (b : List UInt8) (e : Ending) (w' : World) : Prop :=
  ∃ (al : Option Addr) (nl cl : Nat) (ap : Option Addr) (np cp : Nat), e = .returned (.tuple #[.agg #[.int .i64 (decS8 b).1.kind, .int .i64 (decS8 b).1.first, .slice al nl cl], .slice ap np cp, .int .i64 (decS8 b).2]) ∧ RdR w' (.slice al nl cl) (decS8 b).1.recs ∧ Below w.heap.size w w'

theorem ReadG.fail {w w' : World} {b : List UInt8} {n : Int} (h : decS8 b = (zeroG, n)) (hb : Below w.heap.size w w') : ReadG w b (.returned (.tuple #[.agg #[.int .i64 0, .int .i64 0, .slice none 0 0], .slice none 0 0, .int .i64 n])) w' := by
  refine ⟨none, 0, 0, none, 0, 0, ?_, ?_, hb⟩
  · rw [h]
    rfl
  · rw [h]
    exact RdR.nil _

set_option maxRecDepth 100000 in
set_option maxHeartbeats 8000000 in
theorem readG_any (vb : Value) (b : List UInt8) (w : World) (hr : Rd w vb b) (hlim : b.length ≤ 100000) (ht : TabF w) :
    Calls Tryd.prog 33 #[vb] w fun e w' => ReadG w b e w' := by
  have HB0 : Hid (∀ X, Below w.heap.size w (w.alloc X)) := fun X => (Below.refl _ _).alloc (Nat.le_refl _) X
  have X1 : Hid (∀ cs, Bsg (w.alloc (.cells cs 24)) w.heap.size cs) := fun cs => heap_alloc_new w _
  have HTB := hide (fun W (hb : Below w.heap.size w W) => ht.below hb (Nat.le_refl _))
  have HAL := hide (fun X => all_any vb b (w.alloc X) (hr.below (HB0.out X) (Nat.le_refl _)) (by omega))
  obtain ⟨ab, cb, rfl, -⟩ := hr
  obtain ⟨hbd, hmany⟩ := wholeF_bounds b
  unfold allF at HAL
  clear ht
  by_cases he : (wholeF b).2.2 = 0
  case neg =>
    rw [if_neg he] at HAL
    have HN := hide (decS8_err he)
    have hne : (((wholeF b).2.2 : Int) != 0) = true := by rw [bne_iff_ne]; omega
    generalize (wholeF b).2.2 = er at *
    clear he hbd hmany
    go_enter Tryd.func33, Tryd.ntmps33
    go_wp2_with fail
    refine (HAL.out _).mono ?_
    rintro e W1 ⟨v1, rfl, ho1, hb1⟩
    have HX1 := hide ((X1.out _).below hb1 (Nat.le_refl _))
    have HB1 := hide ((HB0.out _).trans (hb1.mono (HB0.out _).size))
    clear ho1 hb1 HAL
    obtain ⟨r0, f0⟩ := HX1.out.cell 0
    obtain ⟨r1, f1⟩ := HX1.out.cell 1
    obtain ⟨r2, f2⟩ := HX1.out.cell 2
    go_wp2
    refine bodyPost_ret (v := .tuple #[.agg #[.int .i64 0, .int .i64 0, .slice none 0 0], .slice none 0 0, .int .i64 (er : Int)]) (by simp [results, Tryd.results33, go_sem, r0, r1, r2]) rfl ?_
    exact ReadG.fail HN.out (belowThree HB1.out _ (Nat.le_refl _) _ _ _)
  rw [if_pos he] at HAL
  have HN := hide (decS8_ok he)
  generalize (wholeF b).1 = L at *
  clear he
  simp only at HAL
  by_cases h2 : 2 ≤ L.length
  case neg =>
    have HN2 : Hid (decS8 b = (zeroG, 16)) := hide (by rw [HN.out]; unfold decL8; rw [if_pos (by omega)])
    have h2' : (L.length : Int) - 1 < 1 := by omega
    clear HN h2 hbd hmany
    go_enter Tryd.func33, Tryd.ntmps33
    go_wp2_with fail
    refine (HAL.out _).mono ?_
    rintro e W1 ⟨v1, rfl, ho1, hb1⟩
    have HX1 := hide ((X1.out _).below hb1 (Nat.le_refl _))
    have HB1 := hide ((HB0.out _).trans (hb1.mono (HB0.out _).size))
    obtain ⟨a1, c1, rfl, -⟩ := ho1
    clear hb1 HAL
    obtain ⟨r0, f0⟩ := HX1.out.cell 0
    obtain ⟨r1, f1⟩ := HX1.out.cell 1
    obtain ⟨r2, f2⟩ := HX1.out.cell 2
    generalize L.length = nl at *
    go_wp2
    refine bodyPost_ret (v := .tuple #[.agg #[.int .i64 0, .int .i64 0, .slice none 0 0], .slice none 0 0, .int .i64 16]) (by simp [results, Tryd.results33, go_sem, r0, r1, r2]) rfl ?_
    exact ReadG.fail HN2.out (belowThree HB1.out _ (Nat.le_refl _) _ _ _)
  obtain ⟨n, hn⟩ : ∃ n, L.length = n + 1 := ⟨L.length - 1, by omega⟩
  have hn1 : 1 ≤ n := by omega
  obtain ⟨m1, m2, m3, m4⟩ := mid_parts hn hn1
  have HDL : Hid (decS8 b = match readH (L.headD []) with
      | .error e => (zeroG, e)
      | .ok (v, k, f) => if (walkB v f L.tail.dropLast [] 16).2.2 ≠ 0 then (zeroG, (walkB v f L.tail.dropLast [] 16).2.2) else if footS (L.headD []) L.tail.dropLast = L.getD n [] then (⟨k, f, (walkB v f L.tail.dropLast [] 16).1⟩, 0) else (zeroG, 16)) := hide (by
    rw [HN.out]
    unfold decL8
    rw [if_neg (by omega), m3]
    cases readH (L.headD []) <;> rfl)
  have hmem : ∀ x ∈ L.headD [] :: L.tail.dropLast, x.length ≤ 1048576 ∧ x.length ≤ 100000 := fun x hx => by
    rw [← m2] at hx
    have := hbd x (List.mem_of_mem_take hx)
    omega
  have hBl : L.tail.dropLast.length = n - 1 := by rw [← m1, List.length_take, List.length_drop]; omega
  have HRB := hide (fun v k f (hv1 : 1 ≤ v) (hv3 : v ≤ 3) (hf : f < 4611686018427387904) vp W (hb : Below w.heap.size w W) (h : RdL W vp L.tail.dropLast) => readBlocks_any v k f hv1 hv3 hf vp L.tail.dropLast W h (by omega) (fun x hx => by have := hmem x (by simp [hx]); omega) (HTB.out W hb))
  have HFO := hide (fun v1 W (h : RdL W v1 (L.headD [] :: L.tail.dropLast)) => footer_any v1 (L.headD []) L.tail.dropLast W h (fun x hx => (hmem x hx).1) (by omega))
  have HRH := hide (fun v1 W (h : Rd W v1 (L.headD [])) => readHeadG_any v1 (L.headD []) W h)
  have HSG := hide (fun v k f a n c W => headSeg_any v k f a n c W)
  have hnl : (n : Int) ≤ 100000 := by omega
  have hn1' : ¬ (n : Int) < 1 := by omega
  clear hmem HN h2 hbd hmany m3 hBl
  go_enter Tryd.func33, Tryd.ntmps33
  go_wp2_with fail
  refine (HAL.out _).mono ?_
  rintro e W1 ⟨v1, rfl, ho1, hb1⟩
  have HX1 := hide ((X1.out _).below hb1 (Nat.le_refl _))
  have HB1 := hide ((HB0.out _).trans (hb1.mono (HB0.out _).size))
  have HL1 := hide ho1
  obtain ⟨a1, c1, rfl, -⟩ := ho1
  rw [hn] at HL1 ⊢
  obtain ⟨b0, o0, x0, rfl, hx0, hxr0⟩ := HL1.out.at 0 (by omega)
  obtain ⟨b0', o0', xn, hbb, hxn, hxrn⟩ := HL1.out.at n (by omega)
  simp only [Option.some.injEq, Addr.mk.injEq, and_true] at hbb
  obtain ⟨rfl, rfl⟩ := hbb
  obtain ⟨am, cm, hrm, hcm⟩ := cutL2_at W1 _ L (n + 1) c1 hn.symm HL1.out 1 (n - 1) (by omega)
  obtain ⟨hrf, hcf⟩ := cutL_front W1 _ L (n + 1) c1 hn.symm HL1.out n (by omega)
  rw [m1] at hrm hcm
  rw [m2] at hrf
  rw [m4] at hxr0
  have km := hcm 1 (n : Int) rfl (by omega)
  have kf := hcf (n : Int) rfl
  have HRM := hide hrm
  have HRF := hide hrf
  have HXN := hide hxrn
  have HCN := hide hxn
  have hc0 := hx0 W1 (Below.refl _ _)
  have HX0 := hide (hxr0 W1 (Below.refl _ _))
  obtain ⟨a0, q0, hxe, -⟩ := hxr0 W1 (Below.refl _ _)
  subst hxe
  have hsub : ((n + 1 : Nat) : Int) - 1 = (n : Int) := by omega
  have hidx : (0 : Int) < ((n + 1 : Nat) : Int) := by omega
  have hidn : (n : Int) < ((n + 1 : Nat) : Int) := by omega
  rw [Nat.add_zero] at hc0
  have HWLT : Hid (w.heap.size < W1.heap.size) := hide HX1.out.lt
  clear hb1 HAL hrm hcm hrf hcf hx0 hxr0 hxn hxrn X1 HB0 m1 m2 m4 hn
  generalize L.tail.dropLast = B at *
  generalize L.headD [] = H at *
  generalize L.getD n [] = LD at *
  generalize hHl : H.length = hl at *
  clear hHl
  go_wp2_with fail
  refine (HRH.out _ _ HX0.out).mono ?_
  rintro e W2 ⟨x, y, z, rfl, hxyz, hb2⟩
  have HXYZ := hide hxyz
  have HX2 := hide (HX1.out.below hb2 (Nat.le_refl _))
  have HB2 := hide (HB1.out.trans (hb2.mono HB1.out.size))
  have HB12 := hide hb2
  clear hxyz hb2 hc0 HX0 HX1 HRH
  obtain ⟨NA, hNA⟩ : ∃ N, N = W2.heap.size := ⟨_, rfl⟩
  obtain ⟨WA, hWA⟩ : ∃ V, V = W2.alloc (.cells #[.int .i64 x, .int .i64 y, .int .i64 z] 42) := ⟨_, rfl⟩
  have hbA : Below W2.heap.size W2 WA := by rw [hWA]; exact (Below.refl _ _).alloc (Nat.le_refl _) _
  have HHA : Hid (Bhd WA NA x y z) := hide (by rw [hWA, hNA]; exact heap_alloc_new W2 _)
  have HXA := hide (HX2.out.below hbA (Nat.le_refl _))
  have HBA := hide (HB2.out.trans (hbA.mono HB2.out.size))
  have HB1A := hide (HB12.out.trans (hbA.mono HB12.out.size))
  have hNA0 : w.heap.size < NA := by rw [hNA]; exact HX2.out.lt
  go_upto_region 8 with fail
  rw [← hWA, ← hNA]
  clear hWA hNA hbA HX2 HB2 HB12
  cases hrd : readH H with
  | error ex =>
    have HN2 : Hid (decS8 b = (zeroG, ex)) := hide (by rw [HDL.out, hrd])
    have hx := readH_ne hrd
    have hx' : (ex != 0) = true := by rw [bne_iff_ne]; exact hx
    have e9 : errH (Except.error ex : Except Int (Nat × Nat × Nat)) = ex := rfl
    obtain ⟨r0, f0⟩ := HXA.out.cell 0
    obtain ⟨r1, f1⟩ := HXA.out.cell 1
    obtain ⟨r2, f2⟩ := HXA.out.cell 2
    rw [e9]
    clear e9 hrd hx HDL HXYZ
    go_wp2
    refine bodyPost_ret (v := .tuple #[.agg #[.int .i64 0, .int .i64 0, .slice none 0 0], .slice none 0 0, .int .i64 ex]) (by simp [results, Tryd.results33, go_sem, r0, r1, r2]) rfl ?_
    exact ReadG.fail HN2.out (belowThree HBA.out _ (Nat.le_refl _) _ _ _)
  | ok t =>
    obtain ⟨v, k, f⟩ := t
    obtain ⟨rfl, rfl, rfl⟩ := HXYZ.out v k f hrd
    obtain ⟨-, hv1, hv3, hk6, hf62⟩ := readH_sound hrd
    have HRB2 := hide (HRB.out v k f hv1 hv3 hf62)
    rw [hrd] at HDL
    have e9 : errH (Except.ok (v, k, f) : Except Int (Nat × Nat × Nat)) = 0 := rfl
    rw [e9]
    unfold BlocksRead at HRB2
    simp only at HDL
    generalize walkB v f B [] 16 = T at *
    obtain ⟨recs, cnt, er⟩ := T
    simp only at HDL HRB2
    clear e9 hrd HXYZ HRB hv1 hv3 hk6 hf62
    generalize (v : Int) = V at *
    have HLT : Hid (w.heap.size < WA.heap.size) := hide (Nat.lt_trans hNA0 HHA.out.lt)
    have HKA : Hid (∀ W, Below WA.heap.size WA W → W.cell? ⟨NA, 0, none⟩ = some (.int .i64 V) ∧ W.cell? ⟨NA, 1, none⟩ = some (.int .i64 (k : Int)) ∧ W.cell? ⟨NA, 2, none⟩ = some (.int .i64 (f : Int))) := hide (fun W hb => (HHA.out.below hb HHA.out.lt).cell.1)
    have HBD : Hid (Below WA.heap.size WA WA.drew) := hide ((Below.refl _ _).drew)
    have HK0 := hide (HKA.out _ HBD.out)
    have HRMA := hide (HRM.out.below HB1A.out (Nat.le_refl _))
    go_upto_region 10 with fail
    go_cut [6, 9, 10] (fun ve vl vc wc => ∃ al nl cl, vl = .slice al nl cl ∧ vc = .int .i64 (cnt : Int) ∧ ve = .int .i64 er ∧ Hid (∀ r ∈ recs, RecOk r) ∧ Hid (OwnR wc WA.heap.size (.slice al nl cl) recs) ∧ Hid (Below WA.heap.size WA wc))
    case first =>
      go_region_held2 (fun W => W.cell? ⟨NA, 0, none⟩ = some (.int .i64 V) ∧ W.cell? ⟨NA, 1, none⟩ = some (.int .i64 (k : Int)) ∧ W.cell? ⟨NA, 2, none⟩ = some (.int .i64 (f : Int))) (first | exact HK0.out | exact HK3.out)
        (first
          | (go_at_call 38; refine (HRB2.out _ WA.drew HBA.out.drew (HRMA.out.below HBD.out (Nat.le_refl _))).mono ?_; rintro e W3 ⟨v3, rfl, hr3, hok3, hb3⟩; have HR3 : Hid (OwnR W3 WA.heap.size v3 recs) := hide hr3; have HOK3 := hide hok3; have HB3 := hide (HBD.out.trans hb3); have HK3 := hide (HKA.out W3 HB3.out); obtain ⟨a3, c3, rfl⟩ := hr3.shape; clear hb3 hr3 hok3))
      all_goals
        go_wp2_with fail
        go_meet
        exact ⟨_, _, _, rfl, rfl, rfl, HOK3, HR3, HB3⟩
    case rest =>
      obtain ⟨al, nl, cl, rfl, rfl, rfl, HOK3, HR3, HB3⟩ := hcut
      obtain ⟨WC, rfl⟩ : ∃ W, W = wc := ⟨_, rfl⟩
      have HXC := hide (HXA.out.below HB3.out (Nat.le_refl _))
      have HHC := hide (HHA.out.below HB3.out HHA.out.lt)
      have HBC := hide (HBA.out.trans (HB3.out.mono HBA.out.size))
      have HB1C := hide (HB1A.out.trans (HB3.out.mono HB1A.out.size))
      clear HXA HHA HBA HB1A HB3 HKA HBD HK0 HRMA HRB2
      by_cases her : er = 0
      case neg =>
        have HN2 : Hid (decS8 b = (zeroG, er)) := hide (by rw [HDL.out, if_pos her])
        have hx' : (er != 0) = true := by rw [bne_iff_ne]; exact her
        obtain ⟨r0, f0⟩ := HXC.out.cell 0
        obtain ⟨r1, f1⟩ := HXC.out.cell 1
        obtain ⟨r2, f2⟩ := HXC.out.cell 2
        clear her HDL
        go_wp2
        refine bodyPost_ret (v := .tuple #[.agg #[.int .i64 0, .int .i64 0, .slice none 0 0], .slice none 0 0, .int .i64 er]) (by simp [results, Tryd.results33, go_sem, r0, r1, r2]) rfl ?_
        exact ReadG.fail HN2.out (belowThree HBC.out _ (Nat.le_refl _) _ _ _)
      subst her
      rw [if_neg (fun h => h rfl)] at HDL
      obtain ⟨an, qn, hxe⟩ : ∃ an qn, xn = .slice an LD.length qn := by
        obtain ⟨an, qn, h, -⟩ := HXN.out W1 (Below.refl _ _)
        exact ⟨an, qn, h⟩
      subst hxe
      have HRFC := hide (HRF.out.below HB1C.out (Nat.le_refl _))
      have HEQ := hide (fun vb W (ha : Rd W (.slice an LD.length qn) LD) (hb : Rd W vb (footS H B)) => bytesEqual_any _ vb LD (footS H B) W ha hb)
      generalize footS H B = FT at *
      obtain ⟨D, hD⟩ : ∃ D, D = decide (LD = FT) := ⟨_, rfl⟩
      rw [← hD] at HEQ
      have HD := hide hD
      have HKA : Hid (∀ W, Below WC.heap.size WC W → W.cell? ⟨b0, o0 + n, none⟩ = some (.slice an LD.length qn)) := hide (fun W hb => HCN.out W (HB1C.out.trans (hb.mono HB1C.out.size)))
      have HXA : Hid (∀ W, Below WC.heap.size WC W → Rd W (.slice an LD.length qn) LD) := hide (fun W hb => HXN.out W (HB1C.out.trans (hb.mono HB1C.out.size)))
      have HBD : Hid (Below WC.heap.size WC WC.drew) := hide ((Below.refl _ _).drew)
      have HK0 := hide (HKA.out _ HBD.out)
      generalize LD.length = ld at *
      clear hD
      go_upto_region 13 with fail
      go_cut [59] (fun x wd => x = .bool (!D) ∧ Hid (Below WC.heap.size WC wd))
      case first =>
        go_region_held (fun W => W.cell? ⟨b0, o0 + n, none⟩ = some (.slice an ld qn)) (first | exact HK0.out | exact HK4.out | exact HK5.out)
          (first
            | (go_at_call 23; refine (HFO.out _ WC.drew (HRFC.out.below HBD.out (Nat.le_refl _))).mono ?_; rintro e W4 ⟨v4, rfl, ho4, hb4⟩; have HR4 := hide ho4.rd; have HB4 := hide (HBD.out.trans hb4); have HK4 := hide (HKA.out W4 HB4.out); clear ho4 hb4)
            | (go_at_call 54; refine (HEQ.out _ W4 (HXA.out W4 HB4.out) HR4.out).mono ?_; rintro e W5 ⟨rfl, hw5⟩; have HB5 : Hid (Below WC.heap.size WC W5) := hide (by rw [hw5]; exact HB4.out); have HK5 := hide (HKA.out W5 HB5.out); clear hw5))
        all_goals
          go_wp2_with fail
          go_meet
          exact ⟨rfl, HB5⟩
      case rest =>
        obtain ⟨rfl, HB5⟩ := hcut
        have HXE := hide (HXC.out.below HB5.out (Nat.le_refl _))
        have HHE := hide (HHC.out.below HB5.out HHC.out.lt)
        have HBE := hide (HBC.out.trans (HB5.out.mono HBC.out.size))
        have HRE := hide (HR3.out.below HB5.out (Nat.le_refl _))
        clear HXC HHC HBC HR3 HB5 HKA HXA HBD HK0 HEQ HFO
        cases D with
        | false =>
          have HN2 : Hid (decS8 b = (zeroG, 16)) := hide (by rw [HDL.out, if_neg (fun h => of_decide_eq_false HD.out.symm h.symm)])
          obtain ⟨r0, f0⟩ := HXE.out.cell 0
          obtain ⟨r1, f1⟩ := HXE.out.cell 1
          obtain ⟨r2, f2⟩ := HXE.out.cell 2
          clear HDL
          go_wp2
          refine bodyPost_ret (v := .tuple #[.agg #[.int .i64 0, .int .i64 0, .slice none 0 0], .slice none 0 0, .int .i64 16]) (by simp [results, Tryd.results33, go_sem, r0, r1, r2]) rfl ?_
          exact ReadG.fail HN2.out (belowThree HBE.out _ (Nat.le_refl _) _ _ _)
        | true =>
          have HN2 : Hid (decS8 b = (⟨k, f, recs⟩, 0)) := hide (by rw [HDL.out, if_pos (of_decide_eq_true HD.out.symm).symm])
          obtain ⟨⟨g0, g1, g2⟩, -⟩ := HHE.out.cell
          clear HDL
          go_wp2_with fail
          refine (HSG.out _ _ _ _ _ _ _).mono ?_
          rintro e W6 ⟨rfl, hb6⟩
          have HXF := hide (HXE.out.below hb6 (Nat.le_refl _))
          have HBF := hide (HBE.out.trans (hb6.mono HBE.out.size))
          have HRX := hide (HRE.out.below hb6 (Nat.le_refl _))
          clear hb6 g0 g1 g2 HXE HBE HRE HHE
          obtain ⟨r0, f0⟩ := HXF.out.cell 0
          obtain ⟨r1, f1⟩ := HXF.out.cell 1
          obtain ⟨r2, f2⟩ := HXF.out.cell 2
          go_wp2
          refine bodyPost_ret (v := .tuple #[.agg #[.int .i64 (k : Int), .int .i64 (f : Int), .slice al nl cl], .slice (some ⟨b0, o0, none⟩) (n + 1) c1, .int .i64 0]) (by simp [results, Tryd.results33, go_sem, r0, r1, r2]) rfl ?_
          refine ⟨al, nl, cl, some ⟨b0, o0, none⟩, n + 1, c1, by rw [HN2.out], ?_, belowThree HBF.out _ (Nat.le_refl _) _ _ _⟩
          rw [HN2.out]
          exact (((HRX.out.set _ 0 HLT.out _).set _ 1 HLT.out _).set _ 2 HLT.out _).rd HOK3.out

set_option maxRecDepth 100000 in
set_option maxHeartbeats 2000000 in
theorem decodeG_any (vb : Value) (b : List UInt8) (w : World) (hr : Rd w vb b) (hlim : b.length ≤ 100000) (ht : TabF w) :
    Calls Tryd.prog 14 #[vb] w fun e w' => DecodedG w b e w' := by
  have HB0 : Hid (∀ X, Below w.heap.size w (w.alloc X)) := fun X => (Below.refl _ _).alloc (Nat.le_refl _) X
  have X1 : Hid (∀ cs, Bsg (w.alloc (.cells cs 24)) w.heap.size cs) := fun cs => heap_alloc_new w _
  have HRG := hide (fun X => readG_any vb b (w.alloc X) (hr.below (HB0.out X) (Nat.le_refl _)) hlim (ht.below (HB0.out X) (Nat.le_refl _)))
  unfold ReadG at HRG
  obtain ⟨ab, cb, rfl, -⟩ := hr
  unfold DecodedG
  obtain ⟨D, hD⟩ : ∃ D, D = decS8 b := ⟨_, rfl⟩
  rw [← hD] at HRG ⊢
  clear hD
  obtain ⟨⟨k, f, recs⟩, er⟩ := D
  simp only at *
  go_enter Tryd.func14, Tryd.ntmps14
  go_wp2_with fail
  refine (HRG.out _).mono ?_
  rintro e W1 ⟨al, nl, cl, ap, np, cp, rfl, hrl, hb1⟩
  have HX1 := hide ((X1.out _).below hb1 (Nat.le_refl _))
  have HB1 := hide ((HB0.out _).trans (hb1.mono (HB0.out _).size))
  have HRL := hide hrl
  clear hb1 hrl HRG
  obtain ⟨NA, hNA⟩ : ∃ N, N = W1.heap.size := ⟨_, rfl⟩
  obtain ⟨WA, hWA⟩ : ∃ V, V = W1.alloc (.cells #[.int .i64 k, .int .i64 f, .slice al nl cl] 24) := ⟨_, rfl⟩
  have hbA : Below W1.heap.size W1 WA := by rw [hWA]; exact (Below.refl _ _).alloc (Nat.le_refl _) _
  have HYA : Hid (Bsg WA NA #[.int .i64 k, .int .i64 f, .slice al nl cl]) := hide (by rw [hWA, hNA]; exact heap_alloc_new W1 _)
  have HXA := hide (HX1.out.below hbA (Nat.le_refl _))
  have HBA := hide (HB1.out.trans (hbA.mono HB1.out.size))
  have HRA := hide (HRL.out.below hbA (Nat.le_refl _))
  have hne : NA ≠ w.heap.size := by
    have := HX1.out.lt
    omega
  go_upto_region 2 with fail
  rw [← hWA, ← hNA]
  clear hWA hNA hbA HX1 HB1 HRL
  obtain ⟨r0, f0⟩ := HXA.out.cell 0
  obtain ⟨r1, f1⟩ := HXA.out.cell 1
  obtain ⟨r2, f2⟩ := HXA.out.cell 2
  obtain ⟨b0, -⟩ := HYA.out.cell 0
  obtain ⟨b1, -⟩ := HYA.out.cell 1
  obtain ⟨b2, -⟩ := HYA.out.cell 2
  have HR3 : Hid (RdR (((WA.setCell ⟨w.heap.size, 0, none⟩ (.int .i64 k)).setCell ⟨w.heap.size, 1, none⟩ (.int .i64 f)).setCell ⟨w.heap.size, 2, none⟩ (.slice al nl cl)) (.slice al nl cl) recs) := hide (HRA.out.bsg HXA.out rfl _ _ _)
  go_wp2
  refine bodyPost_ret (v := .tuple #[.agg #[.int .i64 k, .int .i64 f, .slice al nl cl], .int .i64 er]) (by simp [results, Tryd.results14, go_sem, r0, r1, r2]) rfl ?_
  exact ⟨_, rfl, HR3.out, belowThree HBA.out _ (Nat.le_refl _) _ _ _⟩

end Go.Proofs.YtddhcohjmgdajaaDoor
