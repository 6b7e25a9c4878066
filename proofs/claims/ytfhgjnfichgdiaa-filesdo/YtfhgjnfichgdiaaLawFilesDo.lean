/- Proved: for every room and every calls the law FilesDo answers true (and the call leaves all older memory as it was). No condition. -/
import Derived.Test.YtfhgjnfichgdiaaFilesDoA
import Derived.Test.YtfhgjnfichgdiaaQuietCls
import Derived.OpenShut
import Derived.ChangeOld
namespace Go.Proofs.Ytfhgjnfichgdiaa.filesDo
open Go.ChangeShapes Go.WideShapes Go.ChangeAt Go.RowKit

set_option maxRecDepth 100000 in
set_option maxHeartbeats 1000000 in
theorem names_same (va vb : Value) (l : Dir) (w : World) (ha : RdI w va (l.map Prod.fst)) (hb : RdN w vb l) :
    Calls Try.prog 9 #[va, vb] w fun e w' => e = .returned (.bool true) ∧ Below w.heap.size w w' := by
  have HA := hide ha
  have HB := hide hb
  obtain ⟨ao, ac, rfl, -⟩ := ha
  obtain ⟨bo, bc, rfl, -⟩ := hb
  obtain ⟨n, hn⟩ : ∃ n, n = l.length := ⟨_, rfl⟩
  have HLM : Hid (l.length ≤ bc ∧ bc ≤ maxLen) := hide (by obtain ⟨x, y, hv, h1, h2, -⟩ := HB.out; injection hv with _ _ h3; subst h3; exact ⟨h1, h2⟩)
  have hmx : (n : Int) ≤ 9223372036854775807 := by have := HLM.out; unfold maxLen at this; omega
  have HN := hide hn
  rw [List.length_map, ← hn]
  clear hn
  go_enter Try.func9, Try.ntmps9
  go_wp2
  go_loopw [5] (fun vi wr => ∃ k : Nat, vi = .int .i64 (k : Int) ∧ k ≤ n ∧ Hid (Below w.heap.size w wr)) (fun vi _ => n - (intOf vi).toNat)
  case atStart => exact ⟨0, rfl, Nat.zero_le _, hide (Below.refl _ _)⟩
  case round =>
    obtain ⟨k, rfl, hk, HBW⟩ := hrel
    by_cases hlt : k < n
    case neg =>
      obtain rfl : k = n := by omega
      go_wp2
      go_ret
      exact ⟨rfl, HBW.out⟩
    have hkl : k < l.length := by rw [← HN.out]; exact hlt
    obtain ⟨b, off, cap, hav, hat⟩ := (HB.out.below HBW.out (Nat.le_refl _)).at_ hkl
    have hai := (HA.out.below HBW.out (Nat.le_refl _))
    obtain ⟨ao', ac', hv', -, -, -, -, h6⟩ := hai
    injection hv' with e1 _ e3
    subst e1 e3
    injection hav with e1 _ e3
    subst e1 e3
    rcases h6 with h6 | ⟨g, go, rfl, h7⟩
    · rw [List.map_eq_nil_iff] at h6
      rw [h6] at hkl
      simp at hkl
    have c9 := h7 k (by rw [List.length_map]; exact hkl)
    have e9 : (l.map Prod.fst).getD k 0 = l[k].1 := by simp [List.getD, hkl]
    rw [e9] at c9
    obtain ⟨x, hx⟩ : ∃ x, x = l[k] := ⟨_, rfl⟩
    rw [← hx] at hat c9
    obtain ⟨xn, xf⟩ := x
    obtain ⟨c0, -⟩ := hat
    dsimp only at c0 c9
    have hkn : (k : Int) < (n : Int) := by omega
    clear hx h7 e9 hkl
    go_upto_region 6 with fail
    go_quiet (fail)
    go_wp2
    go_roundw
    case rel => exact ⟨k + 1, by go_num, by omega, hide (below_drewN HBW.out _)⟩
    case measure => simp [intOf]; omega

set_option maxRecDepth 100000 in
set_option maxHeartbeats 8000000 in
theorem walk (room : Int) (v : Value) (l : List FOp) (w : World) (hrm : (Lit.int .i64 room).wf = true) (hl : RdP w v l) :
    Calls Try.prog 3 #[.int .i64 room, v] w fun e w' => e = .returned (.bool true) ∧ Below w.heap.size w w' := by
  have HAW := hide (awakeF_any w)
  have HRL := hide hl
  have HRI := hide (i64_of_wf hrm)
  obtain ⟨la, lc, rfl, -⟩ := hl
  clear hrm
  obtain ⟨B, hB⟩ : ∃ B, B = w.heap.size := ⟨_, rfl⟩
  rw [← hB] at HAW ⊢
  have HBW : Hid (B ≤ w.heap.size) := hide (by omega)
  have HBE := hide hB
  clear hB
  have hS : ∀ {W : World}, Below B w W → B ≤ W.heap.size := fun h => Nat.le_trans HBW.out h.size
  go_enter Try.func3, Try.ntmps3
  go_wp2_with fail
  refine HAW.out.mono ?_
  rintro e W1 ⟨rfl, hb1⟩
  have HB1 := hide hb1
  have HFW := hide (fewF_any _ l W1 (HRL.out.below hb1 (by rw [HBE.out]; exact Nat.le_refl _)))
  clear hb1 HAW
  go_wp2_with fail
  refine HFW.out.mono ?_
  rintro e W1' ⟨FB, rfl, hfw, rfl⟩
  have HFP := hide hfw
  have HN := hide (new_any room HRI.out W1')
  clear hfw HFW
  go_wp2_with fail
  refine HN.out.mono ?_
  rintro e W2 ⟨p, rfl, hd2, hb2⟩
  have HD2 := hide hd2
  have HBS := hide (hS HB1.out)
  have HB12 := hide hb2
  have HB2 := hide (HB1.out.trans (hb2.mono HBS.out))
  clear hd2 hb2 HN
  cases FB with
  | false =>
    go_wp2
    go_ret
    exact ⟨rfl, HB2.out⟩
  | true =>
  have HFEW := hide (HFP.out rfl)
  have hlen := HFEW.out.1
  clear HFP
  have HN := hide (refNew_any room HRI.out W2)
  go_wp2_with fail
  refine HN.out.mono ?_
  rintro e W3 ⟨q, rfl, hd3, hb3⟩
  have HT3 : Hid (Two (fun k => k < B) W3 p q (newD room) (newD room) 0 0) := hide ⟨_, _, HD2.out.below hb3, hd3, fun k hk => by have := HBS.out; omega, fun k hk => by have := HBS.out; have := HB12.out.size; omega, fun k hk hh => by omega⟩
  have HB3 := hide (HB2.out.trans (hb3.mono (hS HB2.out)))
  clear hd3 hb3 HN HD2 HB2 HB12 HBS HB1
  go_wp2
  go_loopw [9] (fun vi wr => ∃ (i : Nat) (d : Dk), vi = .int .i64 (i : Int) ∧ i ≤ l.length ∧ Hid (Two (fun k => k < B) wr p q d d (4 * i) (600 * i)) ∧ Hid (Below B w wr)) (fun vi _ => l.length - (intOf vi).toNat)
  case atStart => exact ⟨0, _, rfl, Nat.zero_le _, HT3, HB3⟩
  case round =>
    clear HT3 HB3
    obtain ⟨i, d, rfl, hil, HD, HB⟩ := hrel
    by_cases hlt : i < l.length
    case neg =>
      have hi2 : i = l.length := by omega
      subst hi2
      go_wp2
      go_ret
      exact ⟨rfl, HB.out⟩
    have HLT := hide hlt
    have hib : i ≤ 150 := by omega
    obtain ⟨x, rb, off, ba, bc, ka, kc, hx, hao, ho⟩ := HRL.out.at hlt
    have HSM := hide (HFEW.out.2 i x hx)
    have HOW := hide (ho.below HB.out (by rw [HBE.out]; exact Nat.le_refl _))
    subst hao
    have c0 := HOW.out.c0
    have c1 := HOW.out.c1
    have c2 := HOW.out.c2
    have c3 := HOW.out.c3
    have c4 := HOW.out.c4
    have HC := hide (does_any (B := B) x _ _ wr HD.out (hS HB.out) HOW.out.rb HOW.out.rk (by rw [HBE.out]; exact ho.rb.blockLt) (by rw [HBE.out]; exact ho.rk.blockLtI) (by omega) (by omega) HSM.out.1 HSM.out.2 ho.i1 ho.i2)
    clear hlt hx ho HOW HSM
    go_wp2_with fail
    refine HC.out.mono ?_
    rintro e W1 ⟨rfl, ⟨D, ht1⟩, hb1⟩
    have HT1 := hide (ht1.mono (show 4 * i + 4 ≤ 4 * (i + 1) by omega) (show 600 * i + 600 ≤ 600 * (i + 1) by omega))
    have HB1 := hide (HB.out.trans hb1)
    clear ht1 hb1 HC c0 c1 c2 c3 c4 HD HB
    have HPK : Hid (∃ (F G : Nat → Prop) (L : Lay) (L' : RLay), DiskL F W1 p L D (usedD D) (4 * (i + 1)) ∧ RefL G W1 q L' D ∧ OkD D ∧ Bnd D (4 * (i + 1)) (600 * (i + 1)) ∧ L'.out = decide (D.power = 0)) := hide (by
      obtain ⟨F, G, ⟨L, g1, g2, g3, -⟩, ⟨L', r1, r2, -⟩, -⟩ := HT1.out
      exact ⟨F, G, L, L', g1, r1, g2, g3, r2.1⟩)
    obtain ⟨F, G, L, L', g1, r1, g2, g3, hpo⟩ := HPK.out
    have HG1 := hide g1
    have HR1 := hide r1
    have HOK := hide g2
    have HBN := hide g3
    have HPO := hide hpo
    clear g1 r1 g2 g3 hpo HPK
    have HNM := hide (names_any W1 HG1.out HOK.out (by omega))
    go_wp2_with fail
    refine HNM.out.mono ?_
    rintro e W2 ⟨v2, rfl, ho2, hb2⟩
    have HO2 := hide ho2
    have HB2 := hide hb2
    have HAL := hide (refAll_any W2 (HR1.out.below hb2) HOK.out HBN.out (by omega))
    have HI2 : Hid (∀ n ∈ (dirD D).map Prod.fst, I64 n) := hide (fun n hn => by
      obtain ⟨e, he, rfl⟩ := List.mem_map.1 hn
      have hm := (HOK.out.dir.may e he).1
      unfold mayN at hm
      simp only [Bool.and_eq_true, decide_eq_true_eq] at hm
      exact ⟨by omega, by omega⟩)
    obtain ⟨a2, n2, e2, hv2⟩ : ∃ a n c, v2 = .slice a n c := by
      obtain ⟨a, c, h, -⟩ := ho2.rd HI2.out
      exact ⟨a, _, c, h⟩
    subst hv2
    clear ho2 hb2 HNM
    go_wp2_with fail
    refine HAL.out.mono ?_
    rintro e W3 ⟨v3, rfl, hg3⟩
    have HB3 := hide (HB2.out.trans (hg3.2.2.mono HB2.out.size))
    have HNI : Hid (∀ e ∈ dirD D, NmI e) := hide (HOK.out.dir.nmi (by have := HBN.out.files; omega))
    have HSA := hide (names_same _ _ (dirD D) W3 ((HO2.out.rd HI2.out).below hg3.2.2 (Nat.le_refl _)) (hg3.1.rd HNI.out))
    obtain ⟨a3, n3, e3, hv3⟩ : ∃ a n c, v3 = .slice a n c := by
      obtain ⟨a, c, h⟩ := hg3.1.shape
      exact ⟨a, _, c, h⟩
    subst hv3
    clear hg3 HAL
    go_wp2_with fail
    refine HSA.out.mono ?_
    rintro e W4 ⟨rfl, hb4⟩
    have HB4 := hide (HB3.out.trans (hb4.mono HB3.out.size))
    clear hb4 HSA HO2 HB2 HB3
    obtain ⟨ι, hne, V, hV, hmem⟩ := below_cls W4.heap.size W4
    have HV := hide hV
    have HM := hide hmem
    obtain ⟨i0, hi0⟩ := hmem W4.drew (Below.refl _ _).drew
    have HBV : Hid (∀ i, Below W1.heap.size W1 (V i)) := hide (fun i => HB4.out.trans ((HV.out i).mono HB4.out.size))
    have lift : ∀ (f : Nat) (args : Array Value) (x : Value) (i : ι), (Calls Try.prog f args (V i) fun e w' => e = .returned x ∧ Below (V i).heap.size (V i) w') → Calls Try.prog f args (V i) fun e w' => e = .returned x ∧ ∃ m, w' = V m := fun f args x i h => h.mono fun e w' hh => ⟨hh.1, HM.out w' ((HV.out i).trans (hh.2.mono (HV.out i).size))⟩
    obtain ⟨U, hU⟩ : ∃ U : Int, U = (usedD D : Int) := ⟨_, rfl⟩
    have C1 := hide (fun i => lift _ _ _ i ((used_any (V i) (HG1.out.only (G := fun _ => False) (Only.ofBelow (HBV.out i)) (fun _ _ h => h))).mono (fun e w' hh => ⟨hh.1, by rw [hh.2]; exact Below.refl _ _⟩)))
    have C2 := hide (fun i => lift _ _ _ i (refUsed_any (V i) (HR1.out.below (HBV.out i)) HOK.out HBN.out (by omega) (by omega)))
    have C3 := hide (fun i => lift _ _ _ i ((on_any (V i) (HG1.out.only (G := fun _ => False) (Only.ofBelow (HBV.out i)) (fun _ _ h => h))).mono (fun e w' hh => ⟨hh.1, by rw [hh.2]; exact Below.refl _ _⟩)))
    have p4 : ∀ i, (V i).cell? ⟨q, 4, none⟩ = some (.bool L'.out) := fun i => (HR1.out.below (HBV.out i)).cells.1.2.2.2.2.1
    rw [HPO.out] at p4
    rw [← hU] at C1 C2
    have hne2 : (D.power != 0) = !decide (D.power = 0) := by
      by_cases h : D.power = 0
      · rw [h]; rfl
      · rw [decide_eq_false h]; simpa using h
    rw [hne2] at C3
    have HFI : Hid (∀ n, Two (fun k => k < B) (V n) p q D D (4 * (i + 1)) (600 * (i + 1)) ∧ Below B w (V n)) := hide (fun n => ⟨HT1.out.below (HBV.out n), HB1.out.trans ((HBV.out n).mono (hS HB1.out))⟩)
    generalize decide (D.power = 0) = pw at *
    clear lift hV hmem hne2 hU
    cases pw
    all_goals
      simp only [Bool.not_true, Bool.not_false] at C3
      go_upto_region 12 with fail
      refine wp_region_cls V i0 (by kernel_rfl) (by kernel_rfl) hi0.symm ?_
      repeat (go_big_quiet_step ((first | (go_at_call 12; exact C1.out _) | (go_at_call 13; exact C2.out _) | (go_at_call 14; exact C3.out _))))
      refine wpQuiet_nil ?_
      intro _ hw'
      obtain ⟨nq, hw''⟩ := hw'
      subst hw''
      go_wp2
      go_roundw
      case rel => exact ⟨i + 1, D, by go_num, by have := HLT.out; omega, hide (HFI.out nq).1, hide (HFI.out nq).2⟩
      case measure => have := HLT.out; simp [intOf]; omega

theorem own : ownKnob Try.prog.godebug = none := by kernel_rfl
theorem laidOut : laidOutB Try.prog = true := by kernel_rfl

set_option linter.unusedVariables false in
set_option maxRecDepth 100000 in
theorem lifted (os : Os) (started : os.Started) (H : Type) (enc : TypeId × Value → H) :
    ReturnsInHanded {} Try.checked os 3 .any (Rows.filesDoSpec.pre6 enc Try.prog Try.f3 Rows.filesDoRow.domain false) (Rows.filesDoSpec.post enc Try.prog Try.f3 false true false false) := by
  refine returnsInHanded_of_change (C := Try.checked) own started (by kernel_rfl) Try.func3
    (ChangeSpec.witness6 (enc := enc) (C := Try.checked) false ⟨#[], #[.int .i64 0, .slice none 0 0], []⟩ 8 (by kernel_rfl) (by kernel_rfl) (by kernel_rfl) (by kernel_rfl)) ?_
  intro W base args ds gs before hval0 hW hcnd _
  have hval : ∀ (j : Nat) t v, Try.f3.params[j]? = some t → args[j]? = some v → Value.okWide Try.prog W .any base t v := hval0
  have hW' := hW
  obtain ⟨p, q, hA0, hV, rfl, hfz, hnd⟩ := hW
  have hA : DataW.TrodAll enc Try.prog W 0 (fun _ => true) true Try.f3.params.toList args.toList ds p := hA0
  rw [Try.params3] at hA hval
  obtain ⟨v0, vs0, d0, ds0, p0, q0, hargs, rfl, rfl, h0, r0⟩ := trodAll_cons hA
  obtain ⟨v1, vs1, d1, ds1, p1, q1, rfl, rfl, rfl, h1, r1⟩ := trodAll_cons r0
  obtain ⟨rfl, rfl, rfl⟩ := trodAll_nil r1
  obtain rfl : args = #[v0, v1] := by cases args; simp_all
  obtain ⟨rfl, rfl⟩ := trodVars_none hV
  obtain ⟨a0, rfl, rfl, rfl, w0⟩ := open_int Try.underlying3 (hval 0 3 v0 rfl rfl) h0
  obtain ⟨a1, len1, cap1, rfl⟩ := okWide_slice Try.underlying22 (hval 1 22 v1 rfl rfl)
  have k1 := h1
  have lt1 : ∀ x ∈ p1, x.block < W.heap.size := by obtain ⟨m, hm⟩ := k1; exact DataW.trod_lt m _ _ _ hm
  obtain ⟨l1, w1⟩ : ∃ l, RdP W (.slice a1 len1 cap1) l := by
    obtain ⟨fuel, hf⟩ := h1
    obtain ⟨v, l, hcs, hr⟩ := open_fops hf
    simp [Value.cells] at hcs
    subst hcs
    exact ⟨l, hr⟩
  clear hA0 hval0
  refine (walk a0 _ l1 W w0 w1).mono fun e W' ⟨he, bel⟩ => ?_
  subst he
  exact ⟨_, rfl, _, _, _, [], _, [], hW', trodAll_mk1 (shut_bool Try.underlying4 _), (trodAll_cons_mk (shut_int Try.underlying3 w0) (trodAll_cons_mk (Below.trod laidOut (by kernel_rfl) (of_decide_eq_true (by kernel_rfl)) k1 bel lt1) trodAll_mk0)), rfl, bel.frame _, fun h => by cases h⟩

theorem over : Rows.filesDoRow.holds Try.pinned (OpenSpec.ofChange Rows.filesDoSpec) :=
  OpenClaim.holds_of_wide 3 Try.f3 rfl rfl rfl rfl rfl rfl rfl ⟨rfl, rfl, rfl, rfl, rfl⟩ rfl rfl rfl rfl rfl (by kernel_rfl) Try.func3 (by kernel_rfl)
    (of_decide_eq_true (by kernel_rfl)) (by unfold Func.isWrapper; first | (rw [if_pos (by decide +kernel)]; kernel_rfl) | (rw [if_neg (by decide +kernel)]; exact ⟨rfl, rfl⟩))
    (fun os started H enc _ => lifted os started H enc)

end Go.Proofs.Ytfhgjnfichgdiaa.filesDo
namespace Go.Proofs.Ytfhgjnfichgdiaa

theorem filesDo_holds : Rows.FilesDoSaid := filesDo.over

end Go.Proofs.Ytfhgjnfichgdiaa
