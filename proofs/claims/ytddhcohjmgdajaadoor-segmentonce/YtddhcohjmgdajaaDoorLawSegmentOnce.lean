/- Proved: for all bytes the law SegmentOnce answers true (and the call leaves all older memory as it was). Its condition: what schema's table holds, where the card lists it. -/
import Derived.Test.YtddhcohjmgdajaaDoorSegAwake
import Derived.Test.YtddhcohjmgdajaaDoorSegOwn
import Derived.Test.YtddhcohjmgdajaaDoorOpenSeg
import Derived.Test.YtddhcohjmgdajaaDoorSegSmall
import Derived.Deep.RegionHeld
import Derived.OpenShut
import Derived.ChangeOld
namespace Go.Proofs.YtddhcohjmgdajaaDoor.segmentOnce
open Go.ChangeShapes Go.WideShapes Go.ChangeAt Go.RowKit

set_option maxRecDepth 100000 in
set_option maxHeartbeats 4000000 in
theorem walk (vb : Value) (b : List UInt8) (w : World) (hr : Rd w vb b) (ht : TabF w) :
    Calls Tryd.prog 5 #[vb] w fun e w' => e = .returned (.bool true) ∧ Below w.heap.size w w' := by
  have HA := hide (fun W (hb : Below w.heap.size w W) => awake8_any W (ht.below hb (Nat.le_refl _)))
  have HR := hide hr
  obtain ⟨ao, cap, rfl, -, -, -, hao⟩ := hr
  by_cases hb : (b.length : Int) ≤ 5000
  case neg =>
    have hb' : 5000 < (b.length : Int) := by omega
    clear hb
    go_enter Tryd.func5, Tryd.ntmps5
    go_wp2_with fail
    refine (HA.out _ (Below.refl _ _)).mono ?_
    rintro e W1 ⟨rfl, hb1⟩
    have HB1 := hide hb1
    clear hb1
    go_wp2
    go_ret
    exact ⟨rfl, HB1.out⟩
  have hb' : ¬ 5000 < (b.length : Int) := by omega
  have HDE := hide (fun W (hb : Below w.heap.size w W) => decodeG_any _ b W (HR.out.below hb (Nat.le_refl _)) (by omega) (ht.below hb (Nat.le_refl _)))
  unfold DecodedG at HDE
  have hd64 := decS8_i64 b
  have HON := hide (fun s (h : decS8 b = (s, 0)) (h2 : b.getD 2 0 = 3) => decS8_once h h2)
  have HFI := hide (fun (h : (decS8 b).2 = 0) => (decS8_find h).2.2.1)
  generalize decS8 b = D at *
  obtain ⟨⟨dk, df, dl⟩, de⟩ := D
  simp only at *
  by_cases he : de = 0
  case neg =>
    have he' : (de != 0) = true := by rw [bne_iff_ne]; exact he
    clear hb he HON HFI hao hd64
    go_enter Tryd.func5, Tryd.ntmps5
    go_wp2_with fail
    refine (HA.out _ (Below.refl _ _)).mono ?_
    rintro e W1 ⟨rfl, hb1⟩
    have HB1 := hide hb1
    clear hb1
    go_wp2_with fail
    refine (HDE.out _ HB1.out).mono ?_
    rintro e W2 ⟨vl2, rfl, hrl2, hb2⟩
    have HB2 := hide (HB1.out.trans (hb2.mono HB1.out.size))
    obtain ⟨a2, c2, rfl, -⟩ := hrl2
    clear hb2
    go_wp2
    go_ret
    exact ⟨rfl, Below.allocs HB2.out _⟩
  have hdl := HFI.out he
  subst he
  by_cases h3 : b.length < 3
  · have h3' : (b.length : Int) < 3 := by omega
    clear hb HON HFI hao hd64 h3
    go_enter Tryd.func5, Tryd.ntmps5
    go_wp2_with fail
    refine (HA.out _ (Below.refl _ _)).mono ?_
    rintro e W1 ⟨rfl, hb1⟩
    have HB1 := hide hb1
    clear hb1
    go_wp2_with fail
    refine (HDE.out _ HB1.out).mono ?_
    rintro e W2 ⟨vl2, rfl, hrl2, hb2⟩
    have HB2 := hide (HB1.out.trans (hb2.mono HB1.out.size))
    obtain ⟨a2, c2, rfl, -⟩ := hrl2
    clear hb2
    go_wp2
    go_ret
    exact ⟨rfl, Below.allocs HB2.out _⟩
  have h3' : ¬ (b.length : Int) < 3 := by omega
  have h32 : (2 : Int) < (b.length : Int) := by omega
  obtain ⟨bb, off, rfl, hc⟩ : ∃ bb off, ao = some ⟨bb, off, none⟩ ∧ ∀ j, j < b.length → w.cell? ⟨bb, off + j, none⟩ = some (.int .u8 ((b.getD j 0).toNat : Nat)) := by
    rcases hao with h0 | ⟨bb, off, h1, h2⟩
    · rw [h0] at h3; simp at h3
    · exact ⟨bb, off, h1, h2⟩
  have hc2 := hc 2 (by omega)
  have hbl : bb < w.heap.size := World.block_lt_of_cell? w ⟨bb, off + 2, none⟩ hc2
  have HCK : Hid (∀ W, Below w.heap.size w W → W.cell? ⟨bb, off + 2, none⟩ = some (.int .u8 ((b.getD 2 0).toNat : Nat))) := hide (fun W hb => (hb.cell (p := ⟨bb, off + 2, none⟩) hbl).trans hc2)
  clear hao hc hc2 HFI
  by_cases h2 : b.getD 2 0 = 3
  case neg =>
    have h2' : ((((b.getD 2 0).toNat : Nat) : Int) != 3) = true := by
      rw [bne_iff_ne]
      intro h
      apply h2
      apply UInt8.toNat_inj.1
      have : (3 : UInt8).toNat = 3 := rfl
      omega
    clear hb HON hd64 h3 h2
    generalize (((b.getD 2 0).toNat : Nat) : Int) = c0 at *
    go_enter Tryd.func5, Tryd.ntmps5
    go_wp2_with fail
    refine (HA.out _ (Below.refl _ _)).mono ?_
    rintro e W1 ⟨rfl, hb1⟩
    have HB1 := hide hb1
    clear hb1
    go_wp2_with fail
    refine (HDE.out _ HB1.out).mono ?_
    rintro e W2 ⟨vl2, rfl, hrl2, hb2⟩
    have HB2 := hide (HB1.out.trans (hb2.mono HB1.out.size))
    obtain ⟨a2, c2, rfl, -⟩ := hrl2
    have hck := fun X => HCK.out (W2.alloc X) (Below.allocs HB2.out X)
    clear hb2
    go_wp2
    go_ret
    exact ⟨rfl, Below.allocs HB2.out _⟩
  have h2' : ((((b.getD 2 0).toNat : Nat) : Int) != 3) = false := by rw [h2]; rfl
  obtain ⟨hmay, henc⟩ := HON.out _ rfl h2
  have HEN : Hid (∀ v1 W, RdR W v1 dl → Below w.heap.size w W → Calls Tryd.prog 8 #[.int .i64 3, .agg #[.int .i64 dk, .int .i64 df, v1]] W fun e w' => ∃ v', e = .returned (.tuple #[v', .int .i64 0]) ∧ Own w' W.heap.size v' b ∧ Below W.heap.size W w') := hide (fun v1 W h1 hb => by
    have h := encodeG_any 3 _ ⟨dk, df, dl⟩ W ⟨v1, rfl, h1, hd64⟩ (by show dl.length ≤ 5000; omega) (ht.below hb (Nat.le_refl _))
    unfold EncodedG segErr segL at h
    have hv3 : (1 : Int) ≤ 3 ∧ (3 : Int) ≤ 3 := by decide
    rw [if_pos hv3, if_pos hv3, if_pos hmay, if_pos hmay] at h
    have e3 : (3 : Int).toNat = 3 := rfl
    rw [e3, henc] at h
    exact h)
  clear hb HON hd64 h3 h2 hmay henc
  generalize (((b.getD 2 0).toNat : Nat) : Int) = c0 at *
  go_enter Tryd.func5, Tryd.ntmps5
  go_wp2_with fail
  refine (HA.out _ (Below.refl _ _)).mono ?_
  rintro e W1 ⟨rfl, hb1⟩
  have HB1 := hide hb1
  clear hb1
  go_wp2_with fail
  refine (HDE.out _ HB1.out).mono ?_
  rintro e W2 ⟨vl2, rfl, hrl2, hb2⟩
  have HB2 := hide (HB1.out.trans (hb2.mono HB1.out.size))
  have HRL := hide hrl2
  obtain ⟨a2, c2, rfl, -⟩ := id hrl2
  clear hb2 hrl2 HDE HB1
  obtain ⟨NA, hNA⟩ : ∃ N, N = W2.heap.size := ⟨_, rfl⟩
  obtain ⟨WA, hWA⟩ : ∃ V, V = W2.alloc (.cells #[.int .i64 dk, .int .i64 df, .slice a2 dl.length c2] 24) := ⟨_, rfl⟩
  have hbA : Below W2.heap.size W2 WA := by rw [hWA]; exact (Below.refl _ _).alloc (Nat.le_refl _) _
  have HYA : Hid (Bsg WA NA #[.int .i64 dk, .int .i64 df, .slice a2 dl.length c2]) := hide (by rw [hWA, hNA]; exact heap_alloc_new W2 _)
  have HLA := hide (HRL.out.below hbA (Nat.le_refl _))
  have HBA := hide (HB2.out.trans (hbA.mono HB2.out.size))
  have hck := HCK.out WA HBA.out
  go_upto_region 5 with fail
  rw [← hWA, ← hNA]
  clear hWA hNA hbA HB2 HRL
  obtain ⟨q0, -⟩ := HYA.out.cell 0
  obtain ⟨q1, -⟩ := HYA.out.cell 1
  obtain ⟨q2, -⟩ := HYA.out.cell 2
  go_wp2_with fail
  refine (HEN.out _ _ HLA.out HBA.out).mono ?_
  rintro e W3 ⟨v3, rfl, ho3, hb3⟩
  have HB3 := hide (HBA.out.trans (hb3.mono HBA.out.size))
  have s1 := ho3.rd.str
  have s2 := (HR.out.below HB3.out (Nat.le_refl _)).str
  clear ho3 hb3 q0 q1 q2 hck
  go_wp2
  go_ret
  exact ⟨rfl, HB3.out⟩

theorem own : ownKnob Tryd.prog.godebug = none := by kernel_rfl
theorem laidOut : laidOutB Tryd.prog = true := by kernel_rfl

set_option linter.unusedVariables false in
set_option maxRecDepth 100000 in
theorem lifted (os : Os) (started : os.Started) (H : Type) (enc : TypeId × Value → H) :
    ReturnsInHanded {} Tryd.checked os 5 .any (fun w args => (Rows.segmentOnceSpec.pre enc Tryd.prog Tryd.f5 Rows.segmentOnceRow.domain false w args ∧ laidMetH Tryd.prog Rows.segmentOnceRow.laid w) ∧ sizedMet enc Tryd.prog Tryd.f5 (OpenSpec.ofChange Rows.segmentOnceSpec) false w args) (Rows.segmentOnceSpec.post enc Tryd.prog Tryd.f5 false true false false) := by
  refine returnsInHanded_of_change_and (C := Tryd.checked) (X := fun w _ => laidMetH Tryd.prog Rows.segmentOnceRow.laid w) (fun _ _ _ hh h => h.of_heap hh) own started (by kernel_rfl) Tryd.func5
    (ChangeSpec.witness_shaped (enc := enc) (C := Tryd.checked) (os := os) (X := fun w _ => laidMetH Tryd.prog Rows.segmentOnceRow.laid w) false (World.doorLaid Tryd.prog 400 os) #[.slice none 0 0] 8 rfl (World.shaped_of_RefB (by kernel_rfl) (by kernel_rfl)) (by kernel_rfl) (by kernel_rfl) (by kernel_rfl) (door_met os _)) ?_
  intro W base args ds gs before hval0 hW hcnd _ hL _
  have hval : ∀ (j : Nat) t v, Tryd.f5.params[j]? = some t → args[j]? = some v → Value.okWide Tryd.prog W .any base t v := hval0
  have hW' := hW
  obtain ⟨p, q, hA0, hV, rfl, hfz, hnd⟩ := hW
  have hA : DataW.TrodAll enc Tryd.prog W 0 (fun _ => true) true Tryd.f5.params.toList args.toList ds p := hA0
  rw [Tryd.params5] at hA hval
  obtain ⟨v0, vs0, d0, ds0, p0, q0, hargs, rfl, rfl, h0, r0⟩ := trodAll_cons hA
  obtain ⟨rfl, rfl, rfl⟩ := trodAll_nil r0
  obtain rfl : args = #[v0] := by cases args; simp_all
  obtain ⟨rfl, rfl⟩ := trodVars_none hV
  obtain ⟨a0, len0, cap0, rfl⟩ := okWide_slice Tryd.underlying26 (hval 0 26 v0 rfl rfl)
  have k0 := h0
  have lt0 : ∀ x ∈ p0, x.block < W.heap.size := by obtain ⟨m, hm⟩ := k0; exact DataW.trod_lt m _ _ _ hm
  obtain ⟨l0, w0⟩ : ∃ l, Rd W (.slice a0 len0 cap0) l := by
    obtain ⟨fuel, hf⟩ := h0
    rcases open_ints Tryd.underlying26 Tryd.underlying5 (by kernel_rfl) hf with ⟨hcs, _⟩ | ⟨x, l, c, zs, hcs, _, hl, hm, hz, _, hcell, hwz⟩
    · simp [Value.cells] at hcs
      obtain ⟨rfl, rfl, rfl⟩ := hcs
      exact ⟨[], Rd.nil _⟩
    · simp [Value.cells] at hcs
      obtain ⟨rfl, rfl, rfl⟩ := hcs
      exact ⟨_, Rd.ofRow hl hm (by simpa using hz) hcell hwz⟩
  clear hA0 hval0
  refine (walk _ l0 W w0 (tabs hL)).mono fun e W' ⟨he, bel⟩ => ?_
  subst he
  exact ⟨_, rfl, _, _, _, [], _, [], hW', trodAll_mk1 (shut_bool Tryd.underlying4 _), (trodAll_cons_mk (Below.trod laidOut (by kernel_rfl) (of_decide_eq_true (by kernel_rfl)) k0 bel lt0) trodAll_mk0), rfl, bel.frame _, fun h => by cases h⟩

theorem over : Rows.segmentOnceRow.holds Tryd.pinned (OpenSpec.ofChange Rows.segmentOnceSpec) :=
  OpenClaim.holds_of_wide 5 Tryd.f5 rfl rfl rfl rfl rfl rfl rfl ⟨rfl, rfl, rfl, rfl, rfl⟩ rfl rfl rfl rfl rfl (by kernel_rfl) Tryd.func5 (by kernel_rfl)
    (of_decide_eq_true (by kernel_rfl)) (by unfold Func.isWrapper; first | (rw [if_pos (by decide +kernel)]; kernel_rfl) | (rw [if_neg (by decide +kernel)]; exact ⟨rfl, rfl⟩))
    (fun os started H enc _ => lifted os started H enc)

end Go.Proofs.YtddhcohjmgdajaaDoor.segmentOnce
namespace Go.Proofs.YtddhcohjmgdajaaDoor

set_option maxRecDepth 100000 in
theorem segmentOnce_holds : Rows.SegmentOnceCardSaid :=
  Claim7.holds_tied_plain_at .later [] _ _ _ _ segmentOnce.over (fun _ h => by cases h) (by kernel_rfl) (fun _ h => by cases h) segmentOnce_row_tie rfl ⟨rfl, rfl⟩ (by kernel_rfl) rfl
    (fun f fn hf hfn => by
      obtain rfl : f = 5 := Option.some.inj ((show Tryd.prog.funcNamed "ferryman/ferrymanlaw08.SegmentOnce" = some 5 by kernel_rfl).symm.trans hf) |>.symm
      obtain rfl : fn = Tryd.f5 := (Option.some.inj (Tryd.func5.symm.trans hfn)).symm
      exact ⟨by kernel_rfl, fun j t ht => by
        rw [Tryd.params5] at ht
        have hm : t ∈ [26] := by simpa using Array.mem_of_getElem? ht
        have hall : ([26].all fun u => !Tryd.prog.wantsStandIn u) = true := by kernel_rfl
        exact (show Tryd.prog.wantsStandIn t = false by simpa using List.all_eq_true.1 hall t hm)⟩)
    (by kernel_rfl)

end Go.Proofs.YtddhcohjmgdajaaDoor
