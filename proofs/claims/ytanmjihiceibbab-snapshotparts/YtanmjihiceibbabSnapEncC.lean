/- Contract of snapshot: wholeOf. -/
import Derived.Test.YtanmjihiceibbabPack4
import Derived.Test.YtanmjihiceibbabCodecEnc
import Derived.Deep.RegionHeld
namespace Go.Proofs.Ytanmjihiceibbab
open Go.RowKit

theorem entsL_snoc (t : List Ent) (q : Nat) (hq : q < t.length) : entsL (t.take (q + 1)) = entsL (t.take q) ++ entL (t.getD q zeroE) := by
  have e1 : t.take (q + 1) = t.take q ++ [t.getD q zeroE] := by
    rw [List.take_add_one, List.getElem?_eq_getElem hq]
    simp [List.getD, hq]
  rw [e1]
  unfold entsL
  rw [List.flatMap_append]
  simp

theorem entsL_take_le (t : List Ent) (q : Nat) : (entsL (t.take q)).length ≤ (entsL t).length := by
  have h : entsL t = entsL (t.take q) ++ entsL (t.drop q) := by
    unfold entsL
    rw [← List.flatMap_append, List.take_append_drop]
  rw [h, List.length_append]
  omega

set_option maxRecDepth 100000 in
set_option maxHeartbeats 4000000 in
theorem wholeOf_any (v : Value) (s : Snap) (w : World) (hs : SnV w v s) (hm : MayN s) :
    Calls Try.prog 31 #[v] w fun e w' => ∃ v', e = .returned v' ∧ Own w' w.heap.size v' (wholeN s) ∧ Below w.heap.size w w' := by
  obtain ⟨vl, vt, rfl, hl, hk, he, ht, hi⟩ := hs
  have hms := may_small hm.2.1
  have htl := tabOk_few hm.2.2
  have hwl := wholeN_le hm
  have hel := encS_le hm.2.1
  have HES := hide (fun W (h : Below w.heap.size w W) => encodeState_any (.agg #[.int .i64 s.st.kind, vl, .bool s.st.shut, .int .i64 s.st.eng]) s.st W ⟨vl, rfl, hl.below h (Nat.le_refl _), hk, he⟩ (by omega))
  unfold EncR at HES
  rw [if_pos hm.2.1, if_pos hm.2.1] at HES
  have HEO : Hid (∀ q, q < s.tab.length → EntOk (s.tab.getD q zeroE)) := hide (fun q hq => (hm.2.2 q hq).1)
  have HPN : Hid (∀ v1 l k W, Rd W v1 l → l.length ≤ 10000 → 0 ≤ k → k < 4611686018427387904 → Calls Try.prog 51 #[v1, .int .i64 k] W fun e w' => ∃ v', e = .returned v' ∧ Own w' W.heap.size v' (l ++ Lib.uvarint k.toNat) ∧ Below W.heap.size W w') := hide (fun v1 l k W h hl h0 h1 => by
    have h := put_any v1 l k W h (by omega)
    rw [putOf_small h0 h1] at h
    exact h)
  have HPS : Hid (∀ v1 l k W, Rd W v1 l → l.length ≤ 10000 → I64 k → Calls Try.prog 52 #[v1, .int .i64 k] W fun e w' => ∃ v', e = .returned v' ∧ Own w' W.heap.size v' (l ++ Lib.uvarint (Lib.zigzag k)) ∧ Below W.heap.size W w') := hide (fun v1 l k W h hl hk => putSigned_any v1 l k W h (by omega) hk.1 hk.2)
  have HSN : Hid (∀ q, q < s.tab.length → entsL (s.tab.take (q + 1)) = entsL (s.tab.take q) ++ entL (s.tab.getD q zeroE)) := hide (fun q hq => entsL_snoc _ q hq)
  have HTL : Hid (∀ q, (entsL (s.tab.take q)).length ≤ (entsL s.tab).length) := hide (fun q => entsL_take_le _ q)
  have HW : Hid (wholeN s = (Lib.uvarint (encS s.st).length ++ (encS s.st ++ Lib.uvarint s.tab.length)) ++ entsL s.tab) := hide (by
    unfold wholeN tabL
    simp only [List.append_assoc])
  have HWL : Hid ((Lib.uvarint (encS s.st).length ++ (encS s.st ++ Lib.uvarint s.tab.length)).length + (entsL s.tab).length ≤ 5000) := hide (by
    rw [HW.out, List.length_append] at hwl
    exact hwl)
  rw [HW.out]
  have u1 : (Lib.uvarint (encS s.st).length).length ≤ 10 := uv10' (by omega)
  have u3 : (Lib.uvarint s.tab.length).length ≤ 10 := uv10' (by omega)
  have HP1 : Hid (∀ W, Calls Try.prog 51 #[.slice none 0 0, .int .i64 ((encS s.st).length : Int)] W fun e w' => ∃ v', e = .returned v' ∧ Own w' W.heap.size v' (Lib.uvarint (encS s.st).length) ∧ Below W.heap.size W w') := hide (fun W => by
    have h := HPN.out (.slice none 0 0) [] ((encS s.st).length : Int) W (Rd.nil W) (by simp) (by omega) (by omega)
    rw [List.nil_append, Int.toNat_natCast] at h
    exact h)
  have HP3 : Hid (∀ W, Calls Try.prog 51 #[.slice none 0 0, .int .i64 (s.tab.length : Int)] W fun e w' => ∃ v', e = .returned v' ∧ Own w' W.heap.size v' (Lib.uvarint s.tab.length) ∧ Below W.heap.size W w') := hide (fun W => by
    have h := HPN.out (.slice none 0 0) [] (s.tab.length : Int) W (Rd.nil W) (by simp) (by omega) (by omega)
    rw [List.nil_append, Int.toNat_natCast] at h
    exact h)
  have HCC : Hid (∀ W N v0 v1 v2, N = W.heap.size → Rd W v0 (Lib.uvarint (encS s.st).length) → Rd W v1 (encS s.st) → Rd W v2 (Lib.uvarint s.tab.length) → Calls Try.prog 50 #[.slice (some ⟨N, 0, none⟩) 3 3] (W.alloc (.cells #[v0, v1, v2] 50)) fun e w' => ∃ v', e = .returned v' ∧ Own w' W.heap.size v' (Lib.uvarint (encS s.st).length ++ (encS s.st ++ Lib.uvarint s.tab.length)) ∧ Below W.heap.size W w') := hide (fun W N v0 v1 v2 hN h0 h1 h2 => concat3 W N hN v0 v1 v2 _ _ _ h0 h1 h2 (by omega))
  obtain ⟨ta, tc, htv, -, -, -, -, hta⟩ := ht
  subst htv
  have HTA := hide hta
  obtain ⟨la, lc, hlv, -⟩ := hl
  subst hlv
  obtain ⟨idx, ⟨kind, L, shut, eng⟩, tab⟩ := s
  dsimp only at *
  clear hk he hi hm hms hwl hel u1 u3 HW hta
  have htl' : (tab.length : Int) ≤ 65 := by omega
  clear htl
  generalize encS ⟨kind, L, shut, eng⟩ = ES at *
  generalize Lib.uvarint ES.length = U1 at *
  generalize Lib.uvarint tab.length = U3 at *
  generalize U1 ++ (ES ++ U3) = H at *
  obtain ⟨W0, hW0⟩ : ∃ W0, W0 = w.alloc (.cells #[.int .i64 idx, .int .i64 kind, .slice la L.length lc, .bool shut, .int .i64 eng, .slice ta tab.length tc] 27) := ⟨_, rfl⟩
  have HB0 : Hid (Below w.heap.size w W0) := hide (by rw [hW0]; exact (Below.refl _ _).alloc (Nat.le_refl _) _)
  have HX0 : Hid (Bn W0 w.heap.size #[.int .i64 idx, .int .i64 kind, .slice la L.length lc, .bool shut, .int .i64 eng, .slice ta tab.length tc]) := hide (by rw [hW0]; exact heap_alloc_new w _)
  obtain ⟨p1, -⟩ := HX0.out.cell 1
  obtain ⟨p2, -⟩ := HX0.out.cell 2
  obtain ⟨p3, -⟩ := HX0.out.cell 3
  obtain ⟨p4, -⟩ := HX0.out.cell 4
  go_enter Try.func31, Try.ntmps31
  go_upto_region 1 with fail
  rw [← hW0]
  clear hW0
  go_wp2_with fail
  refine (HES.out _ HB0.out).mono ?_
  rintro e W1 ⟨v1, rfl, hr1, hb1⟩
  have HX1 := hide (HX0.out.below hb1 (Nat.le_refl _))
  have HB1 := hide (HB0.out.trans (hb1.mono HB0.out.size))
  have HR1 := hide hr1
  obtain ⟨a1, c1, hv1, -⟩ := hr1
  subst hv1
  obtain ⟨q5, -⟩ := HX1.out.cell 5
  clear hb1 HES HX0 HB0 p1 p2 p3 p4
  go_upto_region 2 with fail
  go_cut [5] (fun vo wc => Hid (Own wc w.heap.size vo H) ∧ Hid (Bn wc w.heap.size #[.int .i64 idx, .int .i64 kind, .slice la L.length lc, .bool shut, .int .i64 eng, .slice ta tab.length tc]) ∧ Hid (Below w.heap.size w wc))
  case first =>
    go_region_held (fun w' => w'.cell? ⟨w.heap.size, 5, none⟩ = some (.slice ta tab.length tc)) (go_keep)
      (first
        | (go_at_call_of 51 (Value.int .i64 (ES.length : Int)); refine (HP1.out _).mono ?_; rintro e W2 ⟨v2, rfl, ho2, hb2⟩; have hst2 : Below W1.heap.size W1 W2 := ((Below.refl _ _).drew).trans hb2; have hx2 := HX1.out.below hst2 (Nat.le_refl _); have HX2 := hide hx2; have HB2 := hide (HB1.out.trans (hst2.mono HB1.out.size)); have HR12 := hide (HR1.out.below hst2 (Nat.le_refl _)); obtain ⟨a2, c2, rfl, -⟩ := ho2.rd; have HO2 := hide ho2.rd; obtain ⟨r5, -⟩ := hx2.cell 5; clear ho2 hb2 hx2 hst2)
        | (go_at_call_of 51 (Value.int .i64 (tab.length : Int)); refine (HP3.out _).mono ?_; rintro e W3 ⟨v3, rfl, ho3, hb3⟩; have hx3 := HX2.out.below hb3 (Nat.le_refl _); have HX3 := hide hx3; have HB3 := hide (HB2.out.trans (hb3.mono HB2.out.size)); have HR13 := hide (HR12.out.below hb3 (Nat.le_refl _)); have HO23 := hide (HO2.out.below hb3 (Nat.le_refl _)); obtain ⟨a3, c3, rfl, -⟩ := ho3.rd; have HO3 := hide ho3.rd; obtain ⟨s5, -⟩ := hx3.cell 5; clear ho3 hb3 hx3)
        | (go_at_call 50; refine (HCC.out W3 W3.heap.size _ _ _ rfl HO23.out HR13.out HO3.out).mono ?_; rintro e W4 ⟨v4, rfl, ho4, hb4⟩; have hx4 := HX3.out.below hb4 (Nat.le_refl _); have HX4 := hide hx4; have HB4 := hide (HB3.out.trans (hb4.mono HB3.out.size)); have HO4 := hide (ho4.mono HB3.out.size); obtain ⟨t5, -⟩ := hx4.cell 5; clear ho4 hb4 hx4))
    all_goals
      go_wp2_with fail
      go_meet
      exact ⟨HO4, HX4, HB4⟩
  case rest =>
    obtain ⟨WC, rfl⟩ : ∃ W, W = wc := ⟨_, rfl⟩
    obtain ⟨HO, HX, HB⟩ := hcut
    obtain ⟨q5', -⟩ := HX.out.cell 5
    clear HX1 HB1 HR1 q5 HP1 HP3 HCC
    go_wp2
    go_loopw [5, 27] (fun vo vi wr => ∃ q : Nat, vi = .int .i64 (q : Int) ∧ q ≤ tab.length ∧ Hid (Own wr w.heap.size vo (H ++ entsL (tab.take q))) ∧ Hid (Below w.heap.size w wr)) (fun _ vi _ => tab.length - (intOf vi).toNat)
    case atStart => exact ⟨0, rfl, Nat.zero_le _, by simpa [entsL] using HO, HB⟩
    case round =>
      clear HO HX HB q5'
      obtain ⟨q, rfl, hq, hO, hB⟩ := hrel
      by_cases hlt : q < tab.length
      case neg =>
        obtain rfl : q = tab.length := by omega
        rw [List.take_length] at hO
        go_wp2
        go_ret
        exact ⟨_, rfl, hO.out, hB.out⟩
      have hqi : (q : Int) < (tab.length : Int) := by omega
      rcases HTA.out with h0 | ⟨c, off, rfl, hc⟩
      · rw [h0] at hlt; simp at hlt
      obtain ⟨c0, c1, c2⟩ := (hc q hlt).keep (hB.out.block c (hc q hlt).lt)
      have HEQ := hide (HEO.out q hlt)
      have HSQ := hide (HSN.out q hlt)
      have HTQ : Hid ((H ++ entsL (tab.take q)).length ≤ 5000) := hide (by
        have h1 := HTL.out q
        have h2 := HWL.out
        rw [List.length_append]
        omega)
      obtain ⟨e, he⟩ : ∃ e, e = tab.getD q zeroE := ⟨_, rfl⟩
      rw [← he] at c0 c1 c2 HEQ HSQ
      clear he hc HEO HSN HTL HTA HWL
      obtain ⟨ep, es, er⟩ := e
      have HEN : Hid (entL ⟨ep, es, er⟩ = Lib.uvarint ep.toNat ++ (Lib.uvarint es.toNat ++ Lib.uvarint (Lib.zigzag er))) := hide rfl
      rw [HEN.out, ← List.append_assoc] at HSQ
      have HSE : Hid (H ++ entsL (tab.take (q + 1)) = (((H ++ entsL (tab.take q)) ++ Lib.uvarint ep.toNat) ++ Lib.uvarint es.toNat) ++ Lib.uvarint (Lib.zigzag er)) := hide (by
        rw [HSQ.out]
        simp only [List.append_assoc])
      have HBD : Hid ((0 ≤ ep ∧ ep < 4611686018427387904) ∧ (0 ≤ es ∧ es < 4611686018427387904) ∧ I64 er) := hide (by
        obtain ⟨h1, h2, h3, h4, h5, h6⟩ := HEQ.out
        dsimp only at h1 h2 h3 h4 h5 h6
        exact ⟨⟨h1, by omega⟩, ⟨h3, h4⟩, ⟨by omega, by omega⟩⟩)
      have u1 : (Lib.uvarint ep.toNat).length ≤ 10 := uv10' (by have := HBD.out; omega)
      have u2 : (Lib.uvarint es.toNat).length ≤ 10 := uv10' (by have := HBD.out; omega)
      dsimp only at c0 c1 c2
      generalize H ++ entsL (tab.take q) = P at *
      have HQ1 := hide (fun v1 W h => HPN.out v1 P ep W h (by have := HTQ.out; omega) HBD.out.1.1 HBD.out.1.2)
      have HQ2 := hide (fun v1 W h => HPN.out v1 (P ++ Lib.uvarint ep.toNat) es W h (by have := HTQ.out; rw [List.length_append]; omega) HBD.out.2.1.1 HBD.out.2.1.2)
      have HQ3 := hide (fun v1 W h => HPS.out v1 ((P ++ Lib.uvarint ep.toNat) ++ Lib.uvarint es.toNat) er W h (by have := HTQ.out; rw [List.length_append, List.length_append]; omega) HBD.out.2.2)
      rw [← HSE.out] at HQ3
      clear HPN HPS HSQ HEN HSE HTQ u1 u2 HBD HEQ
      generalize P ++ Lib.uvarint ep.toNat = P1 at *
      generalize P1 ++ Lib.uvarint es.toNat = P2 at *
      obtain ⟨P3, hP3⟩ : ∃ P3, P3 = H ++ entsL (tab.take (q + 1)) := ⟨_, rfl⟩
      rw [← hP3] at HQ3
      have HP3 := hide hP3
      clear hP3
      go_upto_region 6 with fail
      obtain ⟨W5, hW5⟩ : ∃ W5, W5 = wr.alloc (.cells #[.int .i64 ep, .int .i64 es, .int .i64 er] 47) := ⟨_, rfl⟩
      have HB5 : Hid (Below wr.heap.size wr W5) := hide (by rw [hW5]; exact (Below.refl _ _).alloc (Nat.le_refl _) _)
      have HE5 : Hid (Be W5 wr.heap.size #[.int .i64 ep, .int .i64 es, .int .i64 er]) := hide (by rw [hW5]; exact heap_alloc_new wr _)
      rw [← hW5]
      clear hW5 c0 c1 c2
      obtain ⟨QB, hQB⟩ : ∃ QB, QB = wr.heap.size := ⟨_, rfl⟩
      rw [← hQB] at HE5 ⊢
      clear hQB
      have HR5 := hide (hO.out.rd.below HB5.out (Nat.le_refl _))
      have HBW5 := hide (hB.out.trans (HB5.out.mono hB.out.size))
      obtain ⟨va, vc, hvo⟩ : ∃ a c, u5 = .slice a P.length c := by obtain ⟨a, c, h, -⟩ := HR5.out; exact ⟨a, c, h⟩
      subst hvo
      obtain ⟨x0, -⟩ := HE5.out.cell 0
      obtain ⟨x1, -⟩ := HE5.out.cell 1
      clear hO hB HB5
      go_region_held (fun w' => w'.cell? ⟨QB, 0, none⟩ = some (.int .i64 ep) ∧ w'.cell? ⟨QB, 1, none⟩ = some (.int .i64 es)) (go_keep)
        (first
          | (go_at_call_of 51 (Value.int .i64 ep); refine (HQ1.out _ _ (HR5.out.below ((Below.refl _ _).drew) (Nat.le_refl _))).mono ?_; rintro e W6 ⟨v6, rfl, ho6, hb6⟩; have hst6 : Below W5.heap.size W5 W6 := ((Below.refl _ _).drew).trans hb6; have hx6 := HE5.out.below hst6 (Nat.le_refl _); have HE6 := hide hx6; have HB6 := hide (HBW5.out.trans (hst6.mono HBW5.out.size)); obtain ⟨a6, c6, rfl, -⟩ := ho6.rd; have HO6 := hide ho6.rd; obtain ⟨y0, -⟩ := hx6.cell 0; obtain ⟨y1, -⟩ := hx6.cell 1; clear ho6 hb6 hx6 hst6)
          | (go_at_call_of 51 (Value.int .i64 es); refine (HQ2.out _ _ HO6.out).mono ?_; rintro e W7 ⟨v7, rfl, ho7, hb7⟩; have hx7 := HE6.out.below hb7 (Nat.le_refl _); have HE7 := hide hx7; have HB7 := hide (HB6.out.trans (hb7.mono HB6.out.size)); obtain ⟨a7, c7, rfl, -⟩ := ho7.rd; have HO7 := hide ho7.rd; obtain ⟨z0, -⟩ := hx7.cell 0; obtain ⟨z1, -⟩ := hx7.cell 1; obtain ⟨z2, -⟩ := hx7.cell 2; clear ho7 hb7 hx7))
      all_goals
        go_wp2_with fail
        refine (HQ3.out _ _ HO7.out).mono ?_
        rintro e W8 ⟨v8, rfl, ho8, hb8⟩
        have HB8 := hide (HB7.out.trans (hb8.mono HB7.out.size))
        have HO8 := hide (ho8.mono HB7.out.size)
        clear ho8 hb8
        go_wp2
        go_roundw
        case rel => exact ⟨q + 1, by go_num, by omega, hide (by rw [← HP3.out]; exact HO8.out), HB8⟩
        case measure => simp [intOf]; omega

end Go.Proofs.Ytanmjihiceibbab
