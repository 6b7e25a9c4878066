/- Contracts of schema: Decode (Fits and Upgrade: SchemaOwnA; Encode: SchemaOwnB). -/
import Derived.Test.YtddhcohjmgdajaaDoorSchemaOwnD
namespace Go.Proofs.YtddhcohjmgdajaaDoor
open Go.RowKit

set_option maxRecDepth 100000 in
set_option maxHeartbeats 4000000 in
theorem decodeR_any (vb : Value) (l : List UInt8) (w : World) (hr : Rd w vb l) (hlim : l.length ≤ 1000000) (ht : TabF w) :
    Calls Tryd.prog 93 #[vb] w fun e w' => DecodedR w l e w' := by
  have HR := hide hr
  obtain ⟨ao, cap, rfl, -⟩ := hr
  have HB0 : Hid (∀ X, Below w.heap.size w (w.alloc X)) := fun X => (Below.refl _ _).alloc (Nat.le_refl _) X
  have HRW := hide (fun X => HR.out.below (HB0.out X) (Nat.le_refl _))
  have HG1 : Hid (∀ W, Rd W (.slice ao l.length cap) l → Calls Tryd.prog 56 #[.slice ao l.length cap] W fun e w' => e = .returned (.tuple #[.int .i64 ((dec62 l).1 : Nat), .int .i64 ((dec62 l).2 : Nat)]) ∧ w' = W) := fun W h => get_any _ l W h
  by_cases hl : l = []
  · have HN : Hid (decR l = (zeroR, 2)) := by rw [hl]; exact decR_nil
    have hl0 : l.length = 0 := by rw [hl]; rfl
    rw [hl0]
    clear hl hl0
    go_enter Tryd.func93, Tryd.ntmps93
    go_wp2
    refine bodyPost_ret (v := .tuple #[.agg #[.int .i64 0, .int .i64 0, .int .i64 0, .int .i64 0, .int .i64 0, .int .i64 0, .int .i64 0], .int .i64 2]) (by simp [results, Tryd.results93, go_sem]) rfl ?_
    exact DecodedR.fail HN.out (HB0.out _)
  have hpos0 : l.length ≠ 0 := by simpa using hl
  have hpos : ((l.length : Int) == 0) = false := beq_eq_false_iff_ne.2 (by omega)
  have b1 := dec62_le l
  by_cases hk : (dec62 l).2 = 0
  · have HN : Hid (decR l = (zeroR, 3)) := by unfold decR; rw [if_neg hl, if_pos hk]; exact hide rfl
    rw [hk] at HG1
    generalize (dec62 l).1 = v at *
    clear hl hk b1
    go_enter Tryd.func93, Tryd.ntmps93
    go_wp2_with fail
    refine (HG1.out _ (HRW.out _)).mono ?_
    rintro e W1 ⟨rfl, rfl⟩
    go_wp2
    refine bodyPost_ret (v := .tuple #[.agg #[.int .i64 0, .int .i64 0, .int .i64 0, .int .i64 0, .int .i64 0, .int .i64 0, .int .i64 0], .int .i64 3]) (by simp [results, Tryd.results93, go_sem]) rfl ?_
    exact DecodedR.fail HN.out (HB0.out _)
  have ek : (((dec62 l).2 : Int) == 0) = false := beq_eq_false_iff_ne.2 (by omega)
  by_cases hv : 1 ≤ (dec62 l).1 ∧ (dec62 l).1 ≤ 3
  case neg =>
    have HN : Hid (decR l = (zeroR, 6)) := by unfold decR; rw [if_neg hl, if_neg hk, if_pos (by omega)]; exact hide rfl
    have HV := hide (fun W => isVersion_any ((dec62 l).1 : Nat) false (by rw [decide_eq_false (by omega)]) W)
    generalize (dec62 l).1 = v at *
    generalize (dec62 l).2 = k at *
    clear hl hk b1 hv
    go_enter Tryd.func93, Tryd.ntmps93
    go_wp2_with fail
    refine (HG1.out _ (HRW.out _)).mono ?_
    rintro e W1 ⟨rfl, rfl⟩
    go_wp2_with fail
    refine (HV.out _).mono ?_
    rintro e W1 ⟨rfl, rfl⟩
    go_wp2
    refine bodyPost_ret (v := .tuple #[.agg #[.int .i64 0, .int .i64 0, .int .i64 0, .int .i64 0, .int .i64 0, .int .i64 0, .int .i64 0], .int .i64 6]) (by simp [results, Tryd.results93, go_sem]) rfl ?_
    exact DecodedR.fail HN.out (HB0.out _)
  have HN := hide (decR_fin hl hk hv.1 hv.2)
  have HV := hide (fun W => isVersion_any ((dec62 l).1 : Nat) true (by rw [decide_eq_true (by omega)]) W)
  obtain ⟨a2, c2, hr2, hcut⟩ := cut_there w ao l cap HR.out (dec62 l).2 b1
  have HGF := hide (fun W (hb : Below w.heap.size w W) => getFields_any (dec62 l).1 hv.1 hv.2 _ (l.drop (dec62 l).2) W (hr2.below hb (Nat.le_refl _)) (by rw [List.length_drop]; omega) (ht.below hb (Nat.le_refl _)))
  rw [← HN.out] at HGF
  unfold FieldsGot recV at HGF
  unfold DecodedR recV
  have X1 : Hid (∀ cs, Br (w.alloc (.cells cs 48)) w.heap.size cs) := fun cs => heap_alloc_new w _
  generalize decR l = D at *
  generalize l.drop (dec62 l).2 = M at *
  generalize (dec62 l).1 = v at *
  generalize (dec62 l).2 = k at *
  clear hl hk b1 hv hr2 HN ht HR
  go_enter Tryd.func93, Tryd.ntmps93
  go_wp2_with fail
  refine (HG1.out _ (HRW.out _)).mono ?_
  rintro e W1 ⟨rfl, rfl⟩
  go_wp2_with fail
  refine (HV.out _).mono ?_
  rintro e W1 ⟨rfl, rfl⟩
  go_wp2_with fail
  refine (HGF.out _ (HB0.out _)).mono ?_
  rintro e W2 ⟨r, n, rfl, hn, hb2⟩
  have HX2 := hide ((X1.out _).below hb2 (Nat.le_refl _))
  have HB2 := hide ((HB0.out _).trans (hb2.mono (HB0.out _).size))
  have HNN := hide hn
  clear hn hb2 HG1 HV HGF HRW X1 HB0 hcut
  obtain ⟨NA, hNA⟩ : ∃ N, N = W2.heap.size := ⟨_, rfl⟩
  obtain ⟨WA, hWA⟩ : ∃ V, V = W2.alloc (.cells #[.int .i64 r.idx, .int .i64 r.proc, .int .i64 r.seq, .int .i64 r.op.code, .int .i64 r.op.a, .int .i64 r.op.b, .int .i64 r.resp] 48) := ⟨_, rfl⟩
  have hbA : Below W2.heap.size W2 WA := by rw [hWA]; exact (Below.refl _ _).alloc (Nat.le_refl _) _
  have HXA := hide (HX2.out.below hbA (Nat.le_refl _))
  have HYA : Hid (Br WA NA #[.int .i64 r.idx, .int .i64 r.proc, .int .i64 r.seq, .int .i64 r.op.code, .int .i64 r.op.a, .int .i64 r.op.b, .int .i64 r.resp]) := hide (by rw [hWA, hNA]; exact heap_alloc_new W2 _)
  have HBA := hide (HB2.out.trans (hbA.mono HB2.out.size))
  go_upto_region 9 with fail
  rw [← hWA, ← hNA]
  clear hWA hNA hbA HX2 HB2
  have hlw := HXA.out.lt
  rcases HNN.out with ⟨h0, hD⟩ | ⟨h0, hD⟩
  · have hn0 : (n != 0) = true := by rw [bne_iff_ne]; exact h0
    have HE := hide hD
    clear h0 hD HNN
    obtain ⟨r0, f0⟩ := HXA.out.cell 0
    obtain ⟨r1, f1⟩ := HXA.out.cell 1
    obtain ⟨r2, f2⟩ := HXA.out.cell 2
    obtain ⟨r3, f3⟩ := HXA.out.cell 3
    obtain ⟨r4, f4⟩ := HXA.out.cell 4
    obtain ⟨r5, f5⟩ := HXA.out.cell 5
    obtain ⟨r6, f6⟩ := HXA.out.cell 6
    go_wp2
    refine bodyPost_ret (v := .tuple #[.agg #[.int .i64 0, .int .i64 0, .int .i64 0, .int .i64 0, .int .i64 0, .int .i64 0, .int .i64 0], .int .i64 n]) (by simp [results, Tryd.results93, go_sem, r0, r1, r2, r3, r4, r5, r6]) rfl ?_
    rw [HE.out]
    exact ⟨rfl, belowSeven' HBA.out w.heap.size (Nat.le_refl _) _ _ _ _ _ _ _⟩
  have HE := hide hD
  have HF := hide (fun W => fitsR_any r W)
  unfold recV at HF
  subst h0
  clear hD HNN
  by_cases hf : FitsR r
  · rw [decide_eq_true hf] at HF
    rw [if_pos hf] at HE
    clear hf
    obtain ⟨b0, -⟩ := HYA.out.cell 0
    obtain ⟨b1, -⟩ := HYA.out.cell 1
    obtain ⟨b2, -⟩ := HYA.out.cell 2
    obtain ⟨b3, -⟩ := HYA.out.cell 3
    obtain ⟨b4, -⟩ := HYA.out.cell 4
    obtain ⟨b5, -⟩ := HYA.out.cell 5
    obtain ⟨b6, -⟩ := HYA.out.cell 6
    go_wp2_with fail
    refine (HF.out _).mono ?_
    rintro e W3 ⟨rfl, hb3⟩
    have HX3 := hide (HXA.out.below hb3 (Nat.le_refl _))
    have HY3 := hide (HYA.out.below hb3 (Nat.le_refl _))
    have HB3 := hide (HBA.out.trans (hb3.mono HBA.out.size))
    clear hb3 HXA HYA HBA b0 b1 b2 b3 b4 b5 b6 HF
    obtain ⟨b0, -⟩ := HY3.out.cell 0
    obtain ⟨b1, -⟩ := HY3.out.cell 1
    obtain ⟨b2, -⟩ := HY3.out.cell 2
    obtain ⟨b3, -⟩ := HY3.out.cell 3
    obtain ⟨b4, -⟩ := HY3.out.cell 4
    obtain ⟨b5, -⟩ := HY3.out.cell 5
    obtain ⟨b6, -⟩ := HY3.out.cell 6
    obtain ⟨r0, f0⟩ := HX3.out.cell 0
    obtain ⟨r1, f1⟩ := HX3.out.cell 1
    obtain ⟨r2, f2⟩ := HX3.out.cell 2
    obtain ⟨r3, f3⟩ := HX3.out.cell 3
    obtain ⟨r4, f4⟩ := HX3.out.cell 4
    obtain ⟨r5, f5⟩ := HX3.out.cell 5
    obtain ⟨r6, f6⟩ := HX3.out.cell 6
    go_wp2
    refine bodyPost_ret (v := .tuple #[.agg #[.int .i64 r.idx, .int .i64 r.proc, .int .i64 r.seq, .int .i64 r.op.code, .int .i64 r.op.a, .int .i64 r.op.b, .int .i64 r.resp], .int .i64 0]) (by simp [results, Tryd.results93, go_sem, r0, r1, r2, r3, r4, r5, r6]) rfl ?_
    rw [HE.out]
    exact ⟨rfl, belowSeven' HB3.out w.heap.size (Nat.le_refl _) _ _ _ _ _ _ _⟩
  · rw [decide_eq_false hf] at HF
    rw [if_neg hf] at HE
    clear hf
    obtain ⟨b0, -⟩ := HYA.out.cell 0
    obtain ⟨b1, -⟩ := HYA.out.cell 1
    obtain ⟨b2, -⟩ := HYA.out.cell 2
    obtain ⟨b3, -⟩ := HYA.out.cell 3
    obtain ⟨b4, -⟩ := HYA.out.cell 4
    obtain ⟨b5, -⟩ := HYA.out.cell 5
    obtain ⟨b6, -⟩ := HYA.out.cell 6
    go_wp2_with fail
    refine (HF.out _).mono ?_
    rintro e W3 ⟨rfl, hb3⟩
    have HX3 := hide (HXA.out.below hb3 (Nat.le_refl _))
    have HB3 := hide (HBA.out.trans (hb3.mono HBA.out.size))
    clear hb3 HXA HYA HBA b0 b1 b2 b3 b4 b5 b6 HF
    obtain ⟨r0, f0⟩ := HX3.out.cell 0
    obtain ⟨r1, f1⟩ := HX3.out.cell 1
    obtain ⟨r2, f2⟩ := HX3.out.cell 2
    obtain ⟨r3, f3⟩ := HX3.out.cell 3
    obtain ⟨r4, f4⟩ := HX3.out.cell 4
    obtain ⟨r5, f5⟩ := HX3.out.cell 5
    obtain ⟨r6, f6⟩ := HX3.out.cell 6
    go_wp2
    refine bodyPost_ret (v := .tuple #[.agg #[.int .i64 0, .int .i64 0, .int .i64 0, .int .i64 0, .int .i64 0, .int .i64 0, .int .i64 0], .int .i64 1]) (by simp [results, Tryd.results93, go_sem, r0, r1, r2, r3, r4, r5, r6]) rfl ?_
    rw [HE.out]
    exact ⟨rfl, belowSeven' HB3.out w.heap.size (Nat.le_refl _) _ _ _ _ _ _ _⟩

end Go.Proofs.YtddhcohjmgdajaaDoor
