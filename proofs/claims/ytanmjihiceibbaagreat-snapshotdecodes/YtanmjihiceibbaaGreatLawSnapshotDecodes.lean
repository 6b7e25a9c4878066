/- Proved: for all inputs the law SnapshotDecodes answers true (and the call leaves all older memory as it was). No condition. -/
import Derived.Test.YtanmjihiceibbaaGreatSnapAwake
import Derived.Test.YtanmjihiceibbaaGreatSnapDecG
import Derived.Test.YtanmjihiceibbaaGreatOpenSnap
import Derived.Test.YtanmjihiceibbaaGreatPack7
import Derived.OpenShut
import Derived.ChangeOld
namespace Go.Proofs.YtanmjihiceibbaaGreat.snapshotDecodes
open Go.ChangeShapes Go.WideShapes Go.ChangeAt Go.RowKit

set_option maxRecDepth 100000 in
set_option maxHeartbeats 4000000 in
theorem walk (v : Value) (l : List UInt8) (w : World) (hr : Rd w v l) :
    Calls Tryz.prog 3 #[v] w fun e w' => e = .returned (.bool true) ∧ Below w.heap.size w w' := by
  have HA := hide (fun w => awake9_any w)
  have HR := hide hr
  obtain ⟨ao, cap, rfl, hlc, hcm, -⟩ := hr
  have hmlao : (l.length : Int) ≤ 9223372036854775807 := by unfold maxLen at hcm; omega
  clear hlc hcm
  by_cases hln : (l.length : Int) ≤ 5000
  case neg =>
    have hln' : 5000 < (l.length : Int) := by omega
    clear hln
    go_enter Tryz.func3, Tryz.ntmps3
    go_wp2_with fail
    refine (HA.out _).mono ?_
    rintro e W1 ⟨rfl, hb1⟩
    have HB1 := hide hb1
    clear hb1 HA
    go_wp2
    go_ret
    exact ⟨rfl, HB1.out⟩
  have hln' : ¬ (5000 < (l.length : Int)) := by omega
  have HDE := hide (fun W (h : Rd W (.slice ao l.length cap) l) => (decodeN_any _ l W h (by omega)).mono fun _ _ h => h.sn)
  have HRD := hide (fun W (h : Rd W (.slice ao l.length cap) l) => (refDecodeN_any _ l W h (by omega)).mono fun _ _ h => h.sn)
  have HSA := hide (fun va a vb b w h1 h2 => refSameN_any va a vb b w h1 h2)
  generalize decN l = R at *
  obtain ⟨s, er⟩ := R
  dsimp only at HDE HRD
  have hrf : decide (SameN s s) = true := decide_eq_true ⟨⟨rfl, rfl, rfl, rfl⟩, rfl, rfl⟩
  clear hln
  go_enter Tryz.func3, Tryz.ntmps3
  go_wp2_with fail
  refine (HA.out _).mono ?_
  rintro e W1 ⟨rfl, hb1⟩
  have HB1 := hide hb1
  clear hb1 HA
  go_wp2_with fail
  refine (HDE.out _ (HR.out.below HB1.out (Nat.le_refl _))).mono ?_
  rintro e W2 ⟨v2, rfl, hs2, hb2⟩
  obtain ⟨la2, lc2, ta2, tc2, hv2⟩ := hs2.shape
  subst hv2
  have HS2 := hide hs2
  have HB2 := hide (HB1.out.trans (hb2.mono HB1.out.size))
  have HBA : Hid (∀ X, Below W2.heap.size W2 (W2.alloc X)) := fun X => (Below.refl _ _).alloc (Nat.le_refl _) X
  have HXS : Hid (∀ cs, Bn (W2.alloc (.cells cs 29)) W2.heap.size cs) := fun cs => heap_alloc_new W2 _
  clear hs2 hb2 HB1 HDE
  go_wp2_with fail
  refine (HRD.out _ (HR.out.below (HB2.out.trans ((HBA.out _).mono HB2.out.size)) (Nat.le_refl _))).mono ?_
  rintro e W3 ⟨v3, rfl, hs3, hb3⟩
  obtain ⟨la3, lc3, ta3, tc3, hv3⟩ := hs3.shape
  subst hv3
  have hb23 : Below W2.heap.size W2 W3 := (HBA.out _).trans (hb3.mono (HBA.out _).size)
  have HS3 := hide hs3
  have HS23 := hide (HS2.out.below hb23 (Nat.le_refl _))
  have HB3 := hide (HB2.out.trans (hb23.mono HB2.out.size))
  have hx3 : Bn W3 W2.heap.size _ := (HXS.out _).below hb3 (Nat.le_refl _)
  obtain ⟨p0, -⟩ := hx3.cell 0
  obtain ⟨p1, -⟩ := hx3.cell 1
  obtain ⟨p2, -⟩ := hx3.cell 2
  obtain ⟨p3, -⟩ := hx3.cell 3
  obtain ⟨p4, -⟩ := hx3.cell 4
  obtain ⟨p5, -⟩ := hx3.cell 5
  have HBC : Hid (∀ X, Below W3.heap.size W3 (W3.alloc X)) := fun X => (Below.refl _ _).alloc (Nat.le_refl _) X
  have hpk : ∀ X j y, W3.cell? ⟨W2.heap.size, j, none⟩ = some y → (W3.alloc X).cell? ⟨W2.heap.size, j, none⟩ = some y := fun X j y h => (World.cell?_alloc_lt _ _ _ (World.block_lt_of_cell? _ _ h)).trans h
  have r0 := fun X => hpk X 0 _ p0
  have r1 := fun X => hpk X 1 _ p1
  have r2 := fun X => hpk X 2 _ p2
  have r3 := fun X => hpk X 3 _ p3
  have r4 := fun X => hpk X 4 _ p4
  have r5 := fun X => hpk X 5 _ p5
  have HSS := hide (fun X => HSA.out _ s _ s _ (HS23.out.below (HBC.out X) (Nat.le_refl _)) (HS3.out.below (HBC.out X) (Nat.le_refl _)))
  rw [hrf] at HSS
  clear hs3 hb3 hb23 hx3 HB2 HRD HS2 HS3 HS23 HXS HBA hpk p0 p1 p2 p3 p4 p5
  go_wp2_with fail
  refine (HSS.out _).mono ?_
  rintro e W4 ⟨rfl, hb4⟩
  have HB4 := hide (HB3.out.trans (((HBC.out _).trans (hb4.mono (HBC.out _).size)).mono HB3.out.size))
  clear hb4 HB3 HSS
  go_wp2
  go_ret
  exact ⟨rfl, HB4.out⟩

theorem own : ownKnob Tryz.prog.godebug = none := by kernel_rfl
theorem laidOut : laidOutB Tryz.prog = true := by kernel_rfl

set_option linter.unusedVariables false in
set_option maxRecDepth 100000 in
theorem lifted (os : Os) (started : os.Started) (H : Type) (enc : TypeId × Value → H) :
    ReturnsInHanded {} Tryz.checked os 3 .any (Rows.snapshotDecodesSpec.pre6 enc Tryz.prog Tryz.f3 Rows.snapshotDecodesRow.domain false) (Rows.snapshotDecodesSpec.post enc Tryz.prog Tryz.f3 false true false false) := by
  refine returnsInHanded_of_change (C := Tryz.checked) own started (by kernel_rfl) Tryz.func3
    (ChangeSpec.witness6 (enc := enc) (C := Tryz.checked) false ⟨#[], #[.slice none 0 0], []⟩ 8 (by kernel_rfl) (by kernel_rfl) (by kernel_rfl) (by kernel_rfl)) ?_
  intro W base args ds gs before hval0 hW hcnd _
  have hval : ∀ (j : Nat) t v, Tryz.f3.params[j]? = some t → args[j]? = some v → Value.okWide Tryz.prog W .any base t v := hval0
  have hW' := hW
  obtain ⟨p, q, hA0, hV, rfl, hfz, hnd⟩ := hW
  have hA : DataW.TrodAll enc Tryz.prog W 0 (fun _ => true) true Tryz.f3.params.toList args.toList ds p := hA0
  rw [Tryz.params3] at hA hval
  obtain ⟨v0, vs0, d0, ds0, p0, q0, hargs, rfl, rfl, h0, r0⟩ := trodAll_cons hA
  obtain ⟨rfl, rfl, rfl⟩ := trodAll_nil r0
  obtain rfl : args = #[v0] := by cases args; simp_all
  obtain ⟨rfl, rfl⟩ := trodVars_none hV
  obtain ⟨a0, len0, cap0, rfl⟩ := okWide_slice Tryz.underlying22 (hval 0 22 v0 rfl rfl)
  have k0 := h0
  have lt0 : ∀ x ∈ p0, x.block < W.heap.size := by obtain ⟨m, hm⟩ := k0; exact DataW.trod_lt m _ _ _ hm
  obtain ⟨l0, w0⟩ : ∃ l, Rd W (.slice a0 len0 cap0) l := by
    obtain ⟨fuel, hf⟩ := h0
    rcases open_ints Tryz.underlying22 Tryz.underlying5 (by kernel_rfl) hf with ⟨hcs, _⟩ | ⟨x, l, c, zs, hcs, _, hl, hm, hz, _, hcell, hwz⟩
    · simp [Value.cells] at hcs
      obtain ⟨rfl, rfl, rfl⟩ := hcs
      exact ⟨[], Rd.nil _⟩
    · simp [Value.cells] at hcs
      obtain ⟨rfl, rfl, rfl⟩ := hcs
      exact ⟨_, Rd.ofRow hl hm (by simpa using hz) hcell hwz⟩
  clear hA0 hval0
  refine (walk _ l0 W w0).mono fun e W' ⟨he, bel⟩ => ?_
  subst he
  exact ⟨_, rfl, _, _, _, [], _, [], hW', trodAll_mk1 (shut_bool Tryz.underlying4 _), (trodAll_cons_mk (Below.trod laidOut (by kernel_rfl) (of_decide_eq_true (by kernel_rfl)) k0 bel lt0) trodAll_mk0), rfl, bel.frame _, fun h => by cases h⟩

theorem over : Rows.snapshotDecodesRow.holds Tryz.pinned (OpenSpec.ofChange Rows.snapshotDecodesSpec) :=
  OpenClaim.holds_of_wide 3 Tryz.f3 rfl rfl rfl rfl rfl rfl rfl ⟨rfl, rfl, rfl, rfl, rfl⟩ rfl rfl rfl rfl rfl (by kernel_rfl) Tryz.func3 (by kernel_rfl)
    (of_decide_eq_true (by kernel_rfl)) (by unfold Func.isWrapper; first | (rw [if_pos (by decide +kernel)]; kernel_rfl) | (rw [if_neg (by decide +kernel)]; exact ⟨rfl, rfl⟩))
    (fun os started H enc _ => lifted os started H enc)

end Go.Proofs.YtanmjihiceibbaaGreat.snapshotDecodes
namespace Go.Proofs.YtanmjihiceibbaaGreat

theorem snapshotDecodes_holds : Rows.SnapshotDecodesSaid := snapshotDecodes.over

end Go.Proofs.YtanmjihiceibbaaGreat
