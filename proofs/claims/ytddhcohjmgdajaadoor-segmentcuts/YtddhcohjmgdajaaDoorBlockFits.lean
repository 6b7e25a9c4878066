/- Contract of block: Fits. -/
import Derived.Test.YtddhcohjmgdajaaDoorPack4
import Derived.Test.YtddhcohjmgdajaaDoorPack6
import Derived.Test.YtddhcohjmgdajaaDoorQuietCls
namespace Go.Proofs.YtddhcohjmgdajaaDoor
open Go.RowKit

set_option maxRecDepth 100000 in
set_option maxHeartbeats 4000000 in
theorem blockFitsB_any (v : Value) (l : List Rec) (w : World) (hr : RdR w v l) :
    Calls Tryd.prog 75 #[v] w fun e w' => e = .returned (.bool (decide (FitsB l))) ∧ Below w.heap.size w w' := by
  have HR := hide hr
  obtain ⟨ao, cap, rfl, hlc, hcm, -, -, hao⟩ := hr
  have hml : (l.length : Int) ≤ 9223372036854775807 := by unfold maxLen at hcm; omega
  have HAO := hide hao
  clear hao hlc hcm
  by_cases h1 : 1 ≤ l.length
  case neg =>
    have HF : Hid (decide (FitsB l) = false) := decide_eq_false (fun h => h1 h.1)
    have h1' : (l.length : Int) < 1 := by omega
    rw [HF.out]
    go_enter Tryd.func75, Tryd.ntmps75
    go_wp2
    go_ret
    exact ⟨rfl, Below.refl _ _⟩
  have h1' : ¬ (l.length : Int) < 1 := by omega
  by_cases h2 : l.length ≤ 256
  case neg =>
    have HF : Hid (decide (FitsB l) = false) := decide_eq_false (fun h => h2 h.2.1)
    have h2' : 256 < (l.length : Int) := by omega
    rw [HF.out]
    go_enter Tryd.func75, Tryd.ntmps75
    go_wp2
    go_ret
    exact ⟨rfl, Below.refl _ _⟩
  have h2' : ¬ 256 < (l.length : Int) := by omega
  have HALL := hide (fun h => partB_all (l := l) h h1 h2)
  have HPART := hide (fun (h : FitsB l) k => h.part k)
  have HFR := hide (fun r W => fitsR_any r W)
  obtain ⟨D, hD⟩ : ∃ D, D = decide (FitsB l) := ⟨_, rfl⟩
  rw [← hD]
  have HDT : Hid (partB l l.length → D = true) := fun h => by rw [hD]; exact decide_eq_true (HALL.out h)
  have HDF : Hid (∀ k, ¬ partB l k → D = false) := fun k h => by rw [hD]; exact decide_eq_false (fun hf => h (HPART.out hf k))
  have HP0 := hide (partB_zero l)
  have hpos : (0 : Int) < (l.length : Int) := by omega
  clear hD HALL HPART h1 h2
  go_enter Tryd.func75, Tryd.ntmps75
  go_wp2
  go_loopw [15] (fun vi wr => ∃ k : Nat, vi = .int .i64 (k : Int) ∧ k ≤ l.length ∧ Hid (partB l k) ∧ Hid (Below w.heap.size w wr)) (fun vi _ => l.length - (intOf vi).toNat)
  case atStart => exact ⟨0, rfl, Nat.zero_le _, HP0, Below.refl _ _⟩
  case round =>
    obtain ⟨k, rfl, hk, hP, hB⟩ := hrel
    by_cases hlt : k < l.length
    case neg =>
      obtain rfl : k = l.length := by omega
      have HT := hide (HDT.out hP.out)
      go_wp2
      go_ret
      rw [HT.out]
      exact ⟨rfl, hB.out⟩
    rcases HAO.out with h0 | ⟨c, off, rfl, hc⟩
    · rw [h0] at hlt; simp at hlt
    have hck := hc k hlt
    have hc0 := hc 0 (by omega)
    have HBC := hide (fun W (h : Below w.heap.size w W) => hck.keep (h.block c hck.lt))
    have HB0 := hide (fun W (h : Below w.heap.size w W) => (hc0.keep (h.block c hc0.lt)).1)
    have HPN := hide (partB_next hlt)
    have hh : l.headD zeroR = l.getD 0 zeroR := by cases l <;> simp
    rw [hh] at HPN
    have HFH : Hid (FitsR (l.getD k zeroR) → FitsR (l.getD 0 zeroR)) := hide (fun hf => by
      cases k with
      | zero => exact hf
      | succ q =>
        refine hP.out.1 _ ?_
        cases l with
        | nil => simp at hlt
        | cons x t => simp)
    have hkc := HBC.out wr hB.out
    obtain ⟨c0, c1, c2, c3, c4, c5, c6⟩ := hkc
    have HFK := hide (HFR.out (l.getD k zeroR))
    have hFk : ∃ bf, bf = decide (FitsR (l.getD k zeroR)) := ⟨_, rfl⟩
    obtain ⟨bf, hbf⟩ := hFk
    rw [← hbf] at HFK
    have HBF := hide hbf
    unfold recV at HFK
    obtain ⟨r, hr⟩ : ∃ r, r = l.getD k zeroR := ⟨_, rfl⟩
    rw [← hr] at HFK HPN HBF HBC HFH c0 c1 c2 c3 c4 c5 c6
    clear hbf hc hck hr hc0 hh
    generalize (l.getD 0 zeroR) = r0 at *
    go_upto_region 6 with fail
    obtain ⟨W0, hW0⟩ : ∃ W0, W0 = wr.alloc (.cells (recC r) 48) := ⟨_, rfl⟩
    have hn0 : W0.heap.size = wr.heap.size + 1 := by rw [hW0]; simp
    have HBW : Hid (Below w.heap.size w W0) := hide (by rw [hW0]; exact hB.out.alloc hB.out.size _)
    have HBX : Hid (Br W0 wr.heap.size (recC r)) := hide (by rw [hW0]; exact heap_alloc_new wr _)
    unfold recC at hW0
    rw [← hW0]
    clear hW0 c0 c1 c2 c3 c4 c5 c6
    obtain ⟨ι, hne, V, hV, hmem⟩ := below_cls W0.heap.size W0
    have HV := hide hV
    have HM := hide hmem
    obtain ⟨i0, hi0⟩ := hmem W0.drew (Below.refl _ _).drew
    have HBV : Hid (∀ i, Below w.heap.size w (V i)) := hide (fun i => HBW.out.trans ((HV.out i).mono HBW.out.size))
    have hbr : ∀ i, Br (V i) wr.heap.size (recC r) := fun i => ((HV.out i).block _ (by omega)).trans HBX.out
    have d0 : ∀ i, (V i).cell? ⟨wr.heap.size, 0, none⟩ = some (.int .i64 r.idx) := fun i => ((hbr i).cell 0).1
    have d1 : ∀ i, (V i).cell? ⟨wr.heap.size, 1, none⟩ = some (.int .i64 r.proc) := fun i => ((hbr i).cell 1).1
    have d2 : ∀ i, (V i).cell? ⟨wr.heap.size, 2, none⟩ = some (.int .i64 r.seq) := fun i => ((hbr i).cell 2).1
    have d3 : ∀ i, (V i).cell? ⟨wr.heap.size, 3, none⟩ = some (.int .i64 r.op.code) := fun i => ((hbr i).cell 3).1
    have d4 : ∀ i, (V i).cell? ⟨wr.heap.size, 4, none⟩ = some (.int .i64 r.op.a) := fun i => ((hbr i).cell 4).1
    have d5 : ∀ i, (V i).cell? ⟨wr.heap.size, 5, none⟩ = some (.int .i64 r.op.b) := fun i => ((hbr i).cell 5).1
    have d6 : ∀ i, (V i).cell? ⟨wr.heap.size, 6, none⟩ = some (.int .i64 r.resp) := fun i => ((hbr i).cell 6).1
    have e0 : ∀ i, (V i).cell? ⟨c, off, none⟩ = some (.int .i64 r0.idx) := fun i => by
      have h := HB0.out (V i) (HBV.out i)
      rwa [Nat.zero_mul, Nat.add_zero] at h
    have HCA : Hid (∀ i, Calls Tryd.prog 41 #[.agg #[.int .i64 r.idx, .int .i64 r.proc, .int .i64 r.seq, .int .i64 r.op.code, .int .i64 r.op.a, .int .i64 r.op.b, .int .i64 r.resp]] (V i) fun e w' => e = .returned (.bool bf) ∧ ∃ m, w' = V m) := hide (fun i => (HFK.out (V i)).mono fun e w' h => ⟨h.1, HM.out w' ((HV.out i).trans (h.2.mono (HV.out i).size))⟩)
    clear hV hmem hbr HFK HB0 HBC
    cases bf with
    | false =>
      have HD := hide (HDF.out (k + 1) (fun h => of_decide_eq_false HBF.out.symm (HPN.out.1 h).2.1))
      refine wp_region_cls V i0 (by kernel_rfl) (by kernel_rfl) hi0.symm ?_
      repeat (go_big_quiet_step ((go_at_call 41; exact HCA.out _)))
      refine wpQuiet_nil ?_
      intro _ hw'
      obtain ⟨nq, hw''⟩ := hw'
      subst hw''
      go_wp2
      go_ret
      rw [HD.out]
      exact ⟨rfl, HBV.out _⟩
    | true =>
      have HFT := hide (of_decide_eq_true HBF.out.symm)
      obtain ⟨-, i1, i2, -⟩ := HFH.out HFT.out
      by_cases hni : r.idx = r0.idx + k
      · have hneb : (r.idx != r0.idx + k) = false := by rw [bne_eq_false_iff_eq]; exact hni
        have HP1 := hide (HPN.out.2 ⟨hP.out, HFT.out, hni⟩)
        clear HPN hni
        refine wp_region_cls V i0 (by kernel_rfl) (by kernel_rfl) hi0.symm ?_
        repeat (go_big_quiet_step ((go_at_call 41; exact HCA.out _)))
        refine wpQuiet_nil ?_
        intro _ hw'
        obtain ⟨nq, hw''⟩ := hw'
        subst hw''
        go_wp2
        go_roundw
        case rel => exact ⟨k + 1, by go_num, by omega, HP1, HBV.out _⟩
        case measure => simp [intOf]; omega
      · have hneb : (r.idx != r0.idx + k) = true := by rw [bne_iff_ne]; exact hni
        have HD := hide (HDF.out (k + 1) (fun h => hni (HPN.out.1 h).2.2))
        clear HPN hni
        refine wp_region_cls V i0 (by kernel_rfl) (by kernel_rfl) hi0.symm ?_
        repeat (go_big_quiet_step ((go_at_call 41; exact HCA.out _)))
        refine wpQuiet_nil ?_
        intro _ hw'
        obtain ⟨nq, hw''⟩ := hw'
        subst hw''
        go_wp2
        go_ret
        rw [HD.out]
        exact ⟨rfl, HBV.out _⟩

end Go.Proofs.YtddhcohjmgdajaaDoor
