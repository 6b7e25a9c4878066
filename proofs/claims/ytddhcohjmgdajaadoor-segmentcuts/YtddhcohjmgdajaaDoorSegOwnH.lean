/- Contract of segment: readBlocks. -/
import Derived.Test.YtddhcohjmgdajaaDoorSegOwnG
namespace Go.Proofs.YtddhcohjmgdajaaDoor
open Go.RowKit

/-- What readBlocks answers. -/
def BlocksRead (w : World) (v f : Nat) (B : List (List UInt8)) (e : Ending) (w' : World) : Prop :=
  ∃ vl, e = .returned (.tuple #[vl, .int .i64 ((walkB v f B [] 16).2.1 : Int), .int .i64 (walkB v f B [] 16).2.2]) ∧ OwnR w' w.heap.size vl (walkB v f B [] 16).1 ∧ (∀ r ∈ (walkB v f B [] 16).1, RecOk r) ∧ Below w.heap.size w w'

/-- Whether the block ahead is whole is told by how many records there are. -/
def LastIs (A : List Rec) (last : Nat) : Prop := 1 ≤ last ∧ last ≤ 16 ∧ (A.length % 16 = 0 ↔ ¬ last < 16)

theorem LastIs.next {A G : List Rec} {last : Nat} (h : LastIs A last) (hw : ¬ last < 16) (g1 : 1 ≤ G.length) (g2 : G.length ≤ 16) : LastIs (A ++ G) G.length := by
  obtain ⟨_, _, h3⟩ := h
  have := h3.2 hw
  refine ⟨g1, g2, ?_⟩
  rw [List.length_append]
  omega

set_option maxRecDepth 100000 in
set_option maxHeartbeats 8000000 in
theorem readBlocks_any (v k f : Nat) (hv1 : 1 ≤ v) (hv3 : v ≤ 3) (hf : f < 4611686018427387904) (vp : Value) (B : List (List UInt8)) (w : World) (hr : RdL w vp B) (hn : B.length ≤ 1000000) (hB : ∀ x ∈ B, x.length ≤ 1000000) (ht : TabF w) :
    Calls Tryd.prog 38 #[.agg #[.int .i64 (v : Int), .int .i64 (k : Int), .int .i64 (f : Int)], vp] w fun e w' => BlocksRead w v f B e w' := by
  unfold BlocksRead
  have HR := hide hr
  have HTB := hide (fun W (hb : Below w.heap.size w W) => ht.below hb (Nat.le_refl _))
  obtain ⟨ao, cap, rfl, -⟩ := hr
  have HAT := hide (fun j hj => HR.out.at j hj)
  have hml : (B.length : Int) ≤ 1000000 := by omega
  obtain ⟨T, hT⟩ : ∃ T, T = walkB v f B [] 16 := ⟨_, rfl⟩
  rw [← hT]
  have HT : Hid (T = ((walkB v f (B.drop 0) [] 16).1, (walkB v f (B.drop 0) [] 16).2.1 + 0, (walkB v f (B.drop 0) [] 16).2.2)) := hide (by rw [hT]; rfl)
  have HLI : Hid (LastIs [] 16) := hide ⟨by decide, by decide, by decide⟩
  have X1 : Hid (∀ x y z, Bhd (w.alloc (.cells #[.int .i64 x, .int .i64 y, .int .i64 z] 42)) w.heap.size x y z) := fun x y z => heap_alloc_new w _
  have HB0 : Hid (∀ X, Below w.heap.size w (w.alloc X)) := fun X => (Below.refl _ _).alloc (Nat.le_refl _) X
  have HS0 : Hid (∀ X, w.heap.size + 1 ≤ (w.alloc X).heap.size) := fun X => by simp
  clear hT ht
  go_enter Tryd.func38, Tryd.ntmps38
  go_wp2
  go_loopw [7, 14] (fun tl ti wr => ∃ (j last : Nat) (A : List Rec), ti = .int .i64 (j : Int) ∧ j ≤ B.length ∧ A.length ≤ 4096 ∧ Hid (LastIs A last) ∧ Hid (T = ((walkB v f (B.drop j) A last).1, (walkB v f (B.drop j) A last).2.1 + j, (walkB v f (B.drop j) A last).2.2)) ∧ Hid (OwnR wr (w.heap.size + 1) tl A) ∧ Hid (∀ r ∈ A, RecOk r) ∧ Hid (Bhd wr w.heap.size v k f) ∧ Hid (Below w.heap.size w wr) ∧ Hid (w.heap.size + 1 ≤ wr.heap.size)) (fun _ ti _ => B.length - (intOf ti).toNat)
  case atStart => exact ⟨0, 16, [], rfl, Nat.zero_le _, by simp, HLI, HT, OwnR.nil _ _, hide (by simp), hide (X1.out _ _ _), hide (HB0.out _), hide (HS0.out _)⟩
  case round =>
    obtain ⟨j, last, A, rfl, hjl, hA, hLI, hT, hO, hRO, hH, hBw, hS⟩ := hrel
    clear HT HLI X1 HB0 HS0
    obtain ⟨av, cv, rfl⟩ := hO.out.shape
    by_cases hlt : j < B.length
    case neg =>
      have hjL : j = B.length := by omega
      have HE : Hid (T = (A, B.length, 0)) := hide (by rw [hT.out, List.drop_of_length_le (by omega), walkB, hjL]; simp)
      have hlt' : ¬ (j : Int) < (B.length : Int) := by omega
      clear hT hjL
      go_wp2
      go_ret3
      rw [HE.out]
      exact ⟨_, rfl, hO.out.mono (by omega), hRO.out, hBw.out⟩
    have hlt' : (j : Int) < (B.length : Int) := by omega
    obtain ⟨b, off, x, rfl, hx, hxr⟩ := HAT.out j hlt
    have hcx := hx wr hBw.out
    have HX := hide (hxr)
    have HRB := hide (readBlockG_any v hv1 hv3 x (B.getD j []) wr (hxr wr hBw.out) (hB _ (getD_mem hlt)) (HTB.out _ hBw.out))
    have HST := hide (walkB_step v f (B.getD j []) (B.drop (j + 1)) A last)
    have HRD := hide (fun G (h : GotB v (B.getD j []) G) => gotB_read hv1 hv3 h ((f : Int) + (A.length : Int)))
    have HFEW := hide (fun G (h : GotB v (B.getD j []) G) => h.1)
    rw [drop_one hlt, HST.out] at hT
    obtain ⟨ax, cx, hxe, -⟩ := hxr wr hBw.out
    subst hxe
    unfold BlockGot at HRB
    generalize readBk v (B.getD j []) (f + A.length) = rb at *
    generalize B.getD j [] = dj at *
    generalize dj.length = nx at *
    obtain ⟨⟨h0, h1, h2⟩, -⟩ := hH.out.cell
    clear HST hxr hx HX
    go_wp2_with fail
    refine HRB.out.mono ?_
    rintro e W2 ⟨vg, G, rfl, hrg, hgot, hb2⟩
    have HRG := hide hrg
    have HO2 := hide (hO.out.below hb2 (Nat.le_refl _))
    have HH2 := hide (hH.out.below hb2 hH.out.lt)
    have HB2 := hide (hBw.out.trans (hb2.mono hBw.out.size))
    have HS2 := hide (Nat.le_trans hS.out hb2.size)
    have HRDG := hide (HRD.out G hgot)
    have HFG := hide (HFEW.out G hgot)
    obtain ⟨ag, cg, rfl, -, -, -, -, hag⟩ := hrg
    have HAG := hide hag
    rw [HRDG.out] at hT
    obtain ⟨aw, haw⟩ : ∃ aw, aw = decide (A.length % 16 = 0) := ⟨_, rfl⟩
    have hrem : ((A.length : Int) % 16 == 0) = aw := by
      rw [haw]
      have e : (A.length : Int) % 16 = ((A.length % 16 : Nat) : Int) := by omega
      rw [e]
      by_cases h : A.length % 16 = 0
      · rw [h]; rfl
      · rw [decide_eq_false h]; exact beq_eq_false_iff_ne.2 (by omega)
    have HAW := hide haw
    have hnx : (f : Int) + (A.length : Int) ≤ 9223372036854775807 := by omega
    have hnx0 : 0 ≤ (f : Int) + (A.length : Int) := by omega
    clear hb2 hO hH hBw hS HRB hcx h0 h1 h2 HRD HFEW hgot hag haw HRDG
    go_upto_region 7 with fail
    -- the class of worlds that are alike below
    obtain ⟨ι, hne, V, hV, hmem⟩ := below_cls W2.heap.size W2
    have HV := hide hV
    obtain ⟨i0, hi0⟩ := hmem W2.drew (Below.refl _ _).drew
    have HBV : Hid (∀ i, Below w.heap.size w (V i)) := hide (fun i => HB2.out.trans ((HV.out i).mono HB2.out.size))
    have d2 : ∀ i, (V i).cell? ⟨w.heap.size, 2, none⟩ = some (.int .i64 (f : Int)) := fun i => (HH2.out.below (HV.out i) HH2.out.lt).cell.1.2.2
    clear hV hmem
    by_cases hg0 : G.length = 0
    · have HGN : Hid (G = []) := hide (List.eq_nil_of_length_eq_zero hg0)
      have HE : Hid (T = (A, j, 3)) := hide (by
        rw [hT.out, if_neg (fun h => h.1 HGN.out)]
        simp)
      have hgz : ((G.length : Int) == 0) = true := by rw [beq_iff_eq]; omega
      clear hT hg0
      refine wp_region_cls V i0 (by kernel_rfl) (by kernel_rfl) hi0.symm ?_
      repeat (go_big_quiet_step (fail))
      refine wpQuiet_nil ?_
      intro _ hw'
      obtain ⟨nq, hw''⟩ := hw'
      subst hw''
      go_wp2
      go_ret3
      rw [HE.out]
      exact ⟨_, rfl, (HO2.out.below (HV.out _) (Nat.le_refl _)).mono (by omega), hRO.out, HBV.out _⟩
    have hgz : ((G.length : Int) == 0) = false := beq_eq_false_iff_ne.2 (by omega)
    have hgpos : (0 : Int) < (G.length : Int) := by omega
    have HGNE : Hid (G ≠ []) := hide (fun e => by rw [e] at hg0; simp at hg0)
    rcases HAG.out with hz | ⟨c, og, rfl, hc⟩
    · exact absurd hz HGNE.out
    have hc0 := hc 0 (by omega)
    have e0 : ∀ i, (V i).cell? ⟨c, og, none⟩ = some (.int .i64 (G.getD 0 zeroR).idx) := fun i => by
      have h := (hc0.keep ((HV.out i).block c hc0.lt)).1
      rwa [Nat.zero_mul, Nat.add_zero] at h
    clear hc hc0 HAG
    rw [headD_getD] at hT
    by_cases hix : (G.getD 0 zeroR).idx = (f : Int) + (A.length : Int)
    case neg =>
      have HE : Hid (T = (A, j, 3)) := hide (by
        rw [hT.out, if_neg (fun h => hix h.2)]
        simp)
      have hneb : ((G.getD 0 zeroR).idx != (f : Int) + (A.length : Int)) = true := by rw [bne_iff_ne]; exact hix
      generalize (G.getD 0 zeroR).idx = ix at *
      clear hT hix
      refine wp_region_cls V i0 (by kernel_rfl) (by kernel_rfl) hi0.symm ?_
      repeat (go_big_quiet_step (fail))
      refine wpQuiet_nil ?_
      intro _ hw'
      obtain ⟨nq, hw''⟩ := hw'
      subst hw''
      go_wp2
      go_ret3
      rw [HE.out]
      exact ⟨_, rfl, (HO2.out.below (HV.out _) (Nat.le_refl _)).mono (by omega), hRO.out, HBV.out _⟩
    have hneb : ((G.getD 0 zeroR).idx != (f : Int) + (A.length : Int)) = false := by rw [bne_eq_false_iff_eq]; exact hix
    rw [if_pos ⟨HGNE.out, hix⟩] at hT
    simp only at hT
    generalize (G.getD 0 zeroR).idx = ix at *
    cases aw with
    | false =>
      have hla : last < 16 := by
        by_cases h : last < 16
        · exact h
        · exact absurd (hLI.out.2.2.2 h) (of_decide_eq_false HAW.out.symm)
      have HE : Hid (T = (A, j, 3)) := hide (by
        rw [hT.out, if_pos hla]
        simp)
      clear hT hix hla
      refine wp_region_cls V i0 (by kernel_rfl) (by kernel_rfl) hi0.symm ?_
      repeat (go_big_quiet_step (fail))
      refine wpQuiet_nil ?_
      intro _ hw'
      obtain ⟨nq, hw''⟩ := hw'
      subst hw''
      go_wp2
      go_ret3
      rw [HE.out]
      exact ⟨_, rfl, (HO2.out.below (HV.out _) (Nat.le_refl _)).mono (by omega), hRO.out, HBV.out _⟩
    | true =>
      have hla : ¬ last < 16 := hLI.out.2.2.1 (of_decide_eq_true HAW.out.symm)
      rw [if_neg hla] at hT
      have HLA := hide hla
      clear hix hla
      have hG16 : G.length ≤ 16 := by
        rcases HFG.out with h | h
        · exact absurd h HGNE.out
        · exact h.1
      have HGF : Hid (∀ r ∈ G, RecOk r) := hide (fun r hr => by
        rcases HFG.out with h | h
        · exact absurd h HGNE.out
        · exact recOk_of_fits (h.2.1.2.1 r hr))
      by_cases hto : 4096 < A.length + G.length
      · have HE : Hid (T = (A, j, 5)) := hide (by
          rw [hT.out, if_pos hto]
          simp)
        have hto' : 4096 < (A.length : Int) + (G.length : Int) := by omega
        clear hT hto
        refine wp_region_cls V i0 (by kernel_rfl) (by kernel_rfl) hi0.symm ?_
        repeat (go_big_quiet_step (fail))
        refine wpQuiet_nil ?_
        intro _ hw'
        obtain ⟨nq, hw''⟩ := hw'
        subst hw''
        go_wp2
        go_ret3
        rw [HE.out]
        exact ⟨_, rfl, (HO2.out.below (HV.out _) (Nat.le_refl _)).mono (by omega), hRO.out, HBV.out _⟩
      have hto' : ¬ 4096 < (A.length : Int) + (G.length : Int) := by omega
      rw [if_neg hto] at hT
      simp only at hT
      have HT2 : Hid (T = ((walkB v f (B.drop (j + 1)) (A ++ G) G.length).1, (walkB v f (B.drop (j + 1)) (A ++ G) G.length).2.1 + (j + 1), (walkB v f (B.drop (j + 1)) (A ++ G) G.length).2.2)) := hide (by
        rw [hT.out]
        simp only [Nat.add_assoc, Nat.add_comm 1 j])
      have HLN := hide (hLI.out.next HLA.out (by omega) hG16)
      have HROL : Hid (∀ r ∈ A ++ G, RecOk r) := hide (fun r hr => by
        rcases List.mem_append.1 hr with h | h
        · exact hRO.out r h
        · exact HGF.out r h)
      have hAL : (A ++ G).length ≤ 4096 := by rw [List.length_append]; omega
      clear hT hLI
      refine wp_region_cls V i0 (by kernel_rfl) (by kernel_rfl) hi0.symm ?_
      repeat (go_big_quiet_step (fail))
      refine wpQuiet_nil ?_
      intro _ hw'
      obtain ⟨nq, hw''⟩ := hw'
      subst hw''
      have HO3 := hide (HO2.out.below (HV.out nq) (Nat.le_refl _))
      have HG3 := hide (HRG.out.below (HV.out nq) (Nat.le_refl _))
      have HH3 := hide (HH2.out.below (HV.out nq) HH2.out.lt)
      have HS3 := hide (Nat.le_trans HS2.out (HV.out nq).size)
      have HB3 := hide (HBV.out nq)
      clear HO2 HRG HH2 HS2 HB2 HBV HV d2 e0 hi0
      go_wp2_with (at_builtin; refine wpList_append_recs _ rfl _ _ rfl (w.heap.size + 1) _ A rfl HO3.out _ G rfl HG3.out (by omega) HS3.out ?_)
      intro v4 W4 ho4 hb4
      obtain ⟨a4, c4, rfl⟩ := ho4.shape
      have HO4 := hide ho4
      have HH4 := hide (HH3.out.below hb4 (Nat.lt_succ_self _))
      have HB4 := hide (HB3.out.trans (hb4.mono (Nat.le_succ _)))
      have HS4 := hide (Nat.le_trans HS3.out hb4.size)
      clear ho4 hb4
      generalize A ++ G = AL at *
      go_wp2
      go_roundw
      case rel => exact ⟨j + 1, G.length, AL, by go_num, by omega, hAL, HLN, HT2, HO4, HROL, HH4, HB4, HS4⟩
      case measure => simp [intOf]; omega

end Go.Proofs.YtddhcohjmgdajaaDoor
