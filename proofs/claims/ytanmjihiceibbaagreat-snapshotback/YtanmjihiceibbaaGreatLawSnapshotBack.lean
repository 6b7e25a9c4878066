/- Proved: for all inputs the law SnapshotBack answers true (and the call leaves all older memory as it was). No condition. -/
import Derived.Test.YtanmjihiceibbaaGreatSnapAwake
import Derived.Test.YtanmjihiceibbaaGreatSnapDecG
import Derived.Test.YtanmjihiceibbaaGreatOpenSnap
import Derived.OpenShut
import Derived.ChangeOld
namespace Go.Proofs.YtanmjihiceibbaaGreat.snapshotBack
open Go.ChangeShapes Go.WideShapes Go.ChangeAt Go.RowKit

set_option maxRecDepth 100000 in
set_option maxHeartbeats 4000000 in
theorem walk (v : Value) (s : Snap) (w : World) (hs : SnV w v s) :
    Calls Tryz.prog 4 #[v] w fun e w' => e = .returned (.bool true) ∧ Below w.heap.size w w' := by
  have HA := hide (fun w => awake9_any w)
  have HFW := hide (fun v W h => fewN_any v s W h)
  have HEN := hide (fun v W h => encodeN_any v s W h)
  have HDE := hide (fun v b W h hl => (decodeN_any v b W h hl).mono fun _ _ h => h.sn)
  have HSA := hide (fun va a vb b w h1 h2 => sameN_any va a vb b w h1 h2)
  unfold EncodedN at HEN
  obtain ⟨la, lc, ta, tc, hv⟩ := hs.shape
  subst hv
  have HS := hide hs
  have HB0 : Hid (∀ X, Below w.heap.size w (w.alloc X)) := fun X => (Below.refl _ _).alloc (Nat.le_refl _) X
  have HX0 : Hid (∀ cs, Bn (w.alloc (.cells cs 29)) w.heap.size cs) := fun cs => heap_alloc_new w _
  clear hs
  go_enter Tryz.func4, Tryz.ntmps4
  go_wp2_with fail
  refine (HA.out _).mono ?_
  rintro e W1 ⟨rfl, hb1⟩
  have hx1 : Bn W1 w.heap.size _ := (HX0.out _).below hb1 (Nat.le_refl _)
  have HX1 := hide hx1
  have HB1 := hide ((HB0.out _).trans (hb1.mono (HB0.out _).size))
  obtain ⟨p0, -⟩ := hx1.cell 0
  obtain ⟨p1, -⟩ := hx1.cell 1
  obtain ⟨p2, -⟩ := hx1.cell 2
  obtain ⟨p3, -⟩ := hx1.cell 3
  obtain ⟨p4, -⟩ := hx1.cell 4
  obtain ⟨p5, -⟩ := hx1.cell 5
  clear hb1 hx1 HA HX0
  go_wp2_with fail
  refine (HFW.out _ _ (HS.out.below HB1.out (Nat.le_refl _))).mono ?_
  rintro e W2 ⟨rfl, hb2⟩
  have hx2 : Bn W2 w.heap.size _ := HX1.out.below hb2 (Nat.le_refl _)
  have HX2 := hide hx2
  have HB2 := hide (HB1.out.trans (hb2.mono HB1.out.size))
  obtain ⟨q0, -⟩ := hx2.cell 0
  obtain ⟨q1, -⟩ := hx2.cell 1
  obtain ⟨q2, -⟩ := hx2.cell 2
  obtain ⟨q3, -⟩ := hx2.cell 3
  obtain ⟨q4, -⟩ := hx2.cell 4
  obtain ⟨q5, -⟩ := hx2.cell 5
  clear hb2 hx2 HX1 HB1 p0 p1 p2 p3 p4 p5 HFW
  by_cases hf : s.st.L.length ≤ 300 ∧ s.tab.length ≤ 100
  case neg =>
    rw [decide_eq_false hf]
    clear hf
    go_wp2
    go_ret
    exact ⟨rfl, HB2.out⟩
  rw [decide_eq_true hf]
  have HF := hide hf
  clear hf
  by_cases hm : MayN s
  case neg =>
    simp only [if_neg hm] at HEN
    clear hm
    go_wp2_with fail
    refine (HEN.out _ _ (HS.out.below HB2.out (Nat.le_refl _))).mono ?_
    rintro e W3 ⟨v3, rfl, ho3, hb3⟩
    have HB3 := hide (HB2.out.trans (hb3.mono HB2.out.size))
    obtain ⟨a3, c3, hv3, -⟩ := ho3.rd
    subst hv3
    rw [List.length_nil]
    clear ho3 hb3 HEN
    go_wp2
    go_ret
    exact ⟨rfl, HB3.out⟩
  simp only [if_pos hm] at HEN
  have HDC := hide (fun v W h => HDE.out v (encN s) W h (by have := encN_len hm; omega))
  rw [decN_enc hm] at HDC
  dsimp only at HDC
  have hrf : decide (SameN s s) = true := decide_eq_true ⟨⟨rfl, rfl, rfl, rfl⟩, rfl, rfl⟩
  clear hm HDE
  generalize encN s = EN at *
  go_wp2_with fail
  refine (HEN.out _ _ (HS.out.below HB2.out (Nat.le_refl _))).mono ?_
  rintro e W3 ⟨v3, rfl, ho3, hb3⟩
  have HX3 := hide (HX2.out.below hb3 (Nat.le_refl _))
  have HB3 := hide (HB2.out.trans (hb3.mono HB2.out.size))
  obtain ⟨a3, c3, hv3, -⟩ := id ho3.rd
  subst hv3
  have HR3 := hide ho3.rd
  clear ho3 hb3 HX2 HB2 HEN q0 q1 q2 q3 q4 q5
  go_wp2_with fail
  refine (HDC.out _ _ HR3.out).mono ?_
  rintro e W4 ⟨v4, rfl, hs4, hb4⟩
  obtain ⟨la4, lc4, ta4, tc4, hv4⟩ := hs4.shape
  subst hv4
  have HS4 := hide hs4
  have hx4 : Bn W4 w.heap.size _ := HX3.out.below hb4 (Nat.le_refl _)
  have HB4 := hide (HB3.out.trans (hb4.mono HB3.out.size))
  have HSW := hide (HS.out.below HB4.out (Nat.le_refl _))
  obtain ⟨p0, -⟩ := hx4.cell 0
  obtain ⟨p1, -⟩ := hx4.cell 1
  obtain ⟨p2, -⟩ := hx4.cell 2
  obtain ⟨p3, -⟩ := hx4.cell 3
  obtain ⟨p4, -⟩ := hx4.cell 4
  obtain ⟨p5, -⟩ := hx4.cell 5
  have HBC : Hid (∀ X, Below W4.heap.size W4 (W4.alloc X)) := fun X => (Below.refl _ _).alloc (Nat.le_refl _) X
  have hpk : ∀ X j y, W4.cell? ⟨w.heap.size, j, none⟩ = some y → (W4.alloc X).cell? ⟨w.heap.size, j, none⟩ = some y := fun X j y h => (World.cell?_alloc_lt _ _ _ (World.block_lt_of_cell? _ _ h)).trans h
  have r0 := fun X => hpk X 0 _ p0
  have r1 := fun X => hpk X 1 _ p1
  have r2 := fun X => hpk X 2 _ p2
  have r3 := fun X => hpk X 3 _ p3
  have r4 := fun X => hpk X 4 _ p4
  have r5 := fun X => hpk X 5 _ p5
  have HSS := hide (fun X => HSA.out _ s _ s _ (HS4.out.below (HBC.out X) (Nat.le_refl _)) (HSW.out.below (HBC.out X) (Nat.le_refl _)))
  rw [hrf] at HSS
  clear hs4 hb4 hx4 HX3 HB3 HR3 HDC HS4 HSW hpk p0 p1 p2 p3 p4 p5
  go_wp2_with fail
  refine (HSS.out _).mono ?_
  rintro e W5 ⟨rfl, hb5⟩
  have HB5 := hide (HB4.out.trans (((HBC.out _).trans (hb5.mono (HBC.out _).size)).mono HB4.out.size))
  clear hb5 HB4 HSS
  go_wp2
  go_ret
  exact ⟨rfl, HB5.out⟩

theorem own : ownKnob Tryz.prog.godebug = none := by kernel_rfl
theorem laidOut : laidOutB Tryz.prog = true := by kernel_rfl

set_option linter.unusedVariables false in
set_option maxRecDepth 100000 in
theorem lifted (os : Os) (started : os.Started) (H : Type) (enc : TypeId × Value → H) :
    ReturnsInHanded {} Tryz.checked os 4 .any (Rows.snapshotBackSpec.pre6 enc Tryz.prog Tryz.f4 Rows.snapshotBackRow.domain false) (Rows.snapshotBackSpec.post enc Tryz.prog Tryz.f4 false true false false) := by
  refine returnsInHanded_of_change (C := Tryz.checked) own started (by kernel_rfl) Tryz.func4
    (ChangeSpec.witness6 (enc := enc) (C := Tryz.checked) false ⟨#[], #[.agg #[.int .i64 0, .int .i64 0, .slice none 0 0, .bool false, .int .i64 0, .slice none 0 0]], []⟩ 8 (by kernel_rfl) (by kernel_rfl) (by kernel_rfl) (by kernel_rfl)) ?_
  intro W base args ds gs before hval0 hW hcnd _
  have hval : ∀ (j : Nat) t v, Tryz.f4.params[j]? = some t → args[j]? = some v → Value.okWide Tryz.prog W .any base t v := hval0
  have hW' := hW
  obtain ⟨p, q, hA0, hV, rfl, hfz, hnd⟩ := hW
  have hA : DataW.TrodAll enc Tryz.prog W 0 (fun _ => true) true Tryz.f4.params.toList args.toList ds p := hA0
  rw [Tryz.params4] at hA hval
  obtain ⟨v0, vs0, d0, ds0, p0, q0, hargs, rfl, rfl, h0, r0⟩ := trodAll_cons hA
  obtain ⟨rfl, rfl, rfl⟩ := trodAll_nil r0
  obtain rfl : args = #[v0] := by cases args; simp_all
  obtain ⟨rfl, rfl⟩ := trodVars_none hV
  have k0 := h0
  have lt0 : ∀ x ∈ p0, x.block < W.heap.size := by obtain ⟨m, hm⟩ := k0; exact DataW.trod_lt m _ _ _ hm
  obtain ⟨s0, w0⟩ := open_snap (hval 0 29 v0 rfl rfl) h0
  clear hA0 hval0
  refine (walk _ s0 W w0).mono fun e W' ⟨he, bel⟩ => ?_
  subst he
  exact ⟨_, rfl, _, _, _, [], _, [], hW', trodAll_mk1 (shut_bool Tryz.underlying4 _), (trodAll_cons_mk (Below.trod laidOut (by kernel_rfl) (of_decide_eq_true (by kernel_rfl)) k0 bel lt0) trodAll_mk0), rfl, bel.frame _, fun h => by cases h⟩

theorem over : Rows.snapshotBackRow.holds Tryz.pinned (OpenSpec.ofChange Rows.snapshotBackSpec) :=
  OpenClaim.holds_of_wide 4 Tryz.f4 rfl rfl rfl rfl rfl rfl rfl ⟨rfl, rfl, rfl, rfl, rfl⟩ rfl rfl rfl rfl rfl (by kernel_rfl) Tryz.func4 (by kernel_rfl)
    (of_decide_eq_true (by kernel_rfl)) (by unfold Func.isWrapper; first | (rw [if_pos (by decide +kernel)]; kernel_rfl) | (rw [if_neg (by decide +kernel)]; exact ⟨rfl, rfl⟩))
    (fun os started H enc _ => lifted os started H enc)

end Go.Proofs.YtanmjihiceibbaaGreat.snapshotBack
namespace Go.Proofs.YtanmjihiceibbaaGreat

theorem snapshotBack_holds : Rows.SnapshotBackSaid := snapshotBack.over

end Go.Proofs.YtanmjihiceibbaaGreat
