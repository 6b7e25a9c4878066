/- Contracts of ferrymanref08: Same, Upgraded. -/
import Derived.Test.YtddhcohjmgdajaaDoorPack5
import Derived.Test.YtddhcohjmgdajaaDoorRef07S
namespace Go.Proofs.YtddhcohjmgdajaaDoor
open Go.RowKit

/-- Are two segments the same? -/
def sameG (a b : Seg) : Bool := decide (a.recs = b.recs) && (a.kind == b.kind) && (a.first == b.first)

theorem sameG_self (a : Seg) : sameG a a = true := by
  unfold sameG
  simp

set_option maxRecDepth 100000 in
set_option maxHeartbeats 4000000 in
theorem refSameG_any (va : Value) (a : Seg) (vb : Value) (b : Seg) (w : World) (ha : SgV w va a) (hb : SgV w vb b) :
    Calls Tryd.prog 15 #[va, vb] w fun e w' => e = .returned (.bool (sameG a b)) ∧ Below w.heap.size w w' := by
  obtain ⟨vla, rfl, hra, -, -⟩ := ha
  obtain ⟨vlb, rfl, hrb, -, -⟩ := hb
  have HB0 : Hid (∀ X Y, Below w.heap.size w ((w.alloc X).alloc Y)) := fun X Y => Below.allocs (Below.allocs (Below.refl _ _) X) Y
  have X1 : Hid (∀ cs Y, Bsg ((w.alloc (.cells cs 24)).alloc Y) w.heap.size cs) := fun cs Y => (Below.heap_alloc _ _ _ (by simp)).trans (heap_alloc_new w _)
  have X2 : Hid (∀ X cs, Bsg ((w.alloc X).alloc (.cells cs 24)) (w.heap.size + 1) cs) := fun X cs => two_new w X _
  have HSR := hide (fun X Y => refSameR_any vla a.recs vlb b.recs _ (hra.below (HB0.out X Y) (Nat.le_refl _)) (hrb.below (HB0.out X Y) (Nat.le_refl _)))
  obtain ⟨aa, ca, rfl, -⟩ := hra
  obtain ⟨ab, cb, rfl, -⟩ := hrb
  obtain ⟨R, hR⟩ : ∃ R, R = sameG a b := ⟨_, rfl⟩
  rw [← hR]
  unfold sameG at hR
  generalize decide (a.recs = b.recs) = sr at *
  obtain ⟨ka, fa, la⟩ := a
  obtain ⟨kb, fb, lb⟩ := b
  simp only at *
  go_enter Tryd.func15, Tryd.ntmps15
  go_wp2_with fail
  refine (HSR.out _ _).mono ?_
  rintro e W1 ⟨rfl, hb1⟩
  have h1 := (X1.out _ _).below hb1 (Nat.le_refl _)
  have h2 := (X2.out _ _).below hb1 (Nat.le_refl _)
  have HB1 := hide ((HB0.out _ _).trans (hb1.mono (HB0.out _ _).size))
  obtain ⟨p0, -⟩ := h1.cell 0
  obtain ⟨p1, -⟩ := h1.cell 1
  obtain ⟨q0, -⟩ := h2.cell 0
  obtain ⟨q1, -⟩ := h2.cell 1
  clear hb1 h1 h2 HSR X1 X2
  cases sr with
  | false =>
    have HF : Hid (false = R) := hide (by rw [hR]; rfl)
    clear hR
    go_wp2
    go_ret
    exact ⟨ret_b HF.out, HB1.out⟩
  | true =>
    by_cases e1 : ka = kb
    case neg =>
      have f1 : (ka == kb) = false := beq_eq_false_iff_ne.2 e1
      have HF : Hid (false = R) := hide (by rw [hR, f1]; rfl)
      clear e1 hR
      go_wp2
      go_ret
      exact ⟨ret_b HF.out, HB1.out⟩
    have f1 : (ka == kb) = true := by rw [beq_iff_eq]; exact e1
    obtain ⟨β, hβ⟩ : ∃ β, β = (fa == fb) := ⟨_, rfl⟩
    have HF : Hid (β = R) := hide (by rw [hR, f1, hβ]; rfl)
    have hβ' := hβ.symm
    clear e1 hβ hR
    go_wp2
    go_ret
    exact ⟨ret_b HF.out, HB1.out⟩

theorem upg_ok {v : Int} {r : Rec} (h : RecOk r) : RecOk (upgR v r) := by
  obtain ⟨h1, h2, h3, h4, h5⟩ := h
  unfold upgR
  refine ⟨h1, h2, ?_, h4, ?_⟩
  · show I64 (if v < 2 then 0 else r.seq)
    split
    · exact ⟨by decide, by decide⟩
    · exact h3
  · show I64 (if v < 3 then 0 else r.resp)
    split
    · exact ⟨by decide, by decide⟩
    · exact h5

/-- The boxes within Upgraded. -/
structure UpgI (w wr : World) (k f : Int) (vl va : Value) : Prop where
  src : Bsg wr w.heap.size #[.int .i64 k, .int .i64 f, vl]
  res : Bsg wr (w.heap.size + 1) #[.int .i64 0, .int .i64 0, .slice none 0 0]
  box : Bsg wr (w.heap.size + 1 + 1) #[.int .i64 k, .int .i64 f, va]
  below : Below w.heap.size w wr

theorem UpgI.on {w wr W : World} {k f : Int} {vl va : Value} (h : UpgI w wr k f vl va) {B : Nat} (hb : Below B wr W) (hB : w.heap.size + 1 + 1 < B) : UpgI w W k f vl va :=
  ⟨(hb.block _ (by omega)).trans h.src, (hb.block _ (by omega)).trans h.res, (hb.block _ hB).trans h.box, h.below.trans (hb.mono (by omega))⟩

theorem UpgI.put {w wr : World} {k f : Int} {vl va : Value} (h : UpgI w wr k f vl va) (vx : Value) : UpgI w (wr.setCell ⟨w.heap.size + 1 + 1, 2, none⟩ vx) k f vl vx := by
  refine ⟨(Below.heap_setCell _ _ _ _ (show w.heap.size ≠ w.heap.size + 1 + 1 by omega)).trans h.src, (Below.heap_setCell _ _ _ _ (show w.heap.size + 1 ≠ w.heap.size + 1 + 1 by omega)).trans h.res, ?_, h.below.setCell (p := ⟨w.heap.size + 1 + 1, 2, none⟩) (show w.heap.size ≤ w.heap.size + 1 + 1 by omega) _⟩
  have h2 := heap_setCell_same _ (w.heap.size + 1 + 1) 2 _ _ vx h.box
  unfold Bsg
  simpa using h2

theorem UpgI.made (w : World) (k f : Int) (vl : Value) : UpgI w (((w.alloc (.cells #[.int .i64 k, .int .i64 f, vl] 24)).alloc (.cells #[.int .i64 0, .int .i64 0, .slice none 0 0] 24)).alloc (.cells #[.int .i64 k, .int .i64 f, .slice none 0 0] 24)) k f vl (.slice none 0 0) := by
  refine ⟨?_, ?_, ?_, Below.allocs (Below.allocs (Below.allocs (Below.refl _ _) _) _) _⟩
  · exact (Below.heap_alloc _ _ _ (by simp; omega)).trans ((Below.heap_alloc _ _ _ (by simp)).trans (heap_alloc_new w _))
  · exact (Below.heap_alloc _ _ _ (by simp)).trans (two_new w _ _)
  · have h := two_new (w.alloc (.cells #[.int .i64 k, .int .i64 f, vl] 24)) (.cells #[.int .i64 0, .int .i64 0, .slice none 0 0] 24) (.cells #[.int .i64 k, .int .i64 f, .slice none 0 0] 24)
    have e : ∀ X, (w.alloc X).heap.size = w.heap.size + 1 := fun X => by simp
    rw [e] at h
    exact h

/-- What Upgraded answers. -/
def UpgradedG (w : World) (s : Seg) (e : Ending) (w' : World) : Prop :=
  ∃ vl, e = .returned (.agg #[.int .i64 s.kind, .int .i64 s.first, vl]) ∧ RdR w' vl s.recs ∧ Below w.heap.size w w'

set_option maxRecDepth 100000 in
set_option maxHeartbeats 4000000 in
theorem refUpgradedG_any (v : Nat) (hv1 : 1 ≤ v) (hv3 : v ≤ 3) (vs : Value) (s : Seg) (w : World) (hs : SgV w vs s) (hlim : s.recs.length ≤ 10000) :
    Calls Tryd.prog 16 #[.int .i64 (v : Int), vs] w fun e w' => UpgradedG w (upgG v s) e w' := by
  unfold UpgradedG upgG
  obtain ⟨vl, rfl, hr, -, -⟩ := hs
  have HR := hide hr
  obtain ⟨k, f, l⟩ := s
  simp only at *
  have HUP : Hid (∀ r W, Calls Tryd.prog 35 #[.int .i64 (v : Int), recV r] W fun e w' => e = .returned (.tuple #[recV (upgR v r), .int .i64 0]) ∧ Below W.heap.size W w') := hide (fun r W => by
    have h := refUpgrade_any (v : Int) r W
    have hv : 1 ≤ (v : Int) ∧ (v : Int) ≤ 3 := ⟨by omega, by omega⟩
    rw [if_pos hv, if_pos hv] at h
    exact h)
  unfold recV at HUP
  have HMS : Hid (∀ q, q < l.length → (l.take (q + 1)).map (upgR v) = (l.take q).map (upgR v) ++ [upgR v (l.getD q zeroR)]) := hide (fun q hq => by rw [takeR_snoc hq, List.map_append]; rfl)
  have HALL : Hid ((l.take l.length).map (upgR v) = l.map (upgR v)) := hide (by rw [List.take_length])
  obtain ⟨ao, cap, rfl, hlc, hcm, -, hok, hao⟩ := hr
  have HOKS : Hid (∀ q, ∀ r ∈ (l.take q).map (upgR v), RecOk r) := hide (fun q r hr => by
    obtain ⟨s, hs, rfl⟩ := List.mem_map.1 hr
    exact upg_ok (hok s (List.mem_of_mem_take hs)))
  have HAO := hide hao
  have hml : (l.length : Int) ≤ 10000 := by omega
  have HMD := hide (UpgI.made w k f (.slice ao l.length cap))
  have HSZ : Hid (∀ X Y U, w.heap.size + 1 + 1 + 1 ≤ (((w.alloc X).alloc Y).alloc U).heap.size) := hide (fun X Y U => by simp)
  clear hlc hcm hok hao
  go_enter Tryd.func16, Tryd.ntmps16
  go_wp2
  go_loopw [6] (fun vi wr => ∃ (q : Nat) (va : Value), vi = .int .i64 (q : Int) ∧ q ≤ l.length ∧ Hid (OwnR wr (w.heap.size + 1 + 1 + 1) va ((l.take q).map (upgR v))) ∧ Hid (UpgI w wr k f (.slice ao l.length cap) va) ∧ Hid (w.heap.size + 1 + 1 + 1 ≤ wr.heap.size)) (fun vi _ => l.length - (intOf vi).toNat)
  case atStart => exact ⟨0, .slice none 0 0, rfl, Nat.zero_le _, OwnR.nil _ _, HMD, hide (HSZ.out _ _ _)⟩
  case round =>
    obtain ⟨q, va, rfl, hq, hO, hI, hS⟩ := hrel
    obtain ⟨av, cv, rfl⟩ := hO.out.shape
    obtain ⟨s2, -⟩ := hI.out.src.cell 2
    by_cases hlt : q < l.length
    case neg =>
      have e : q = l.length := by omega
      have hlt' : ¬ (q : Int) < (l.length : Int) := by omega
      have hlq : ((l.take q).map (upgR v)).length = (l.map (upgR v)).length := by rw [e, HALL.out]
      have HOE : Hid (OwnR wr (w.heap.size + 1 + 1 + 1) (.slice av (l.map (upgR v)).length cv) (l.map (upgR v))) := hide (by rw [← HALL.out, ← e]; exact hO.out)
      have HOKE : Hid (∀ r ∈ l.map (upgR v), RecOk r) := hide (by rw [← HALL.out]; exact HOKS.out _)
      have hI2 := hI.out
      rw [hlq] at hI2
      have HI2 := hide hI2
      obtain ⟨LM, hLM⟩ : ∃ LM, LM = l.map (upgR v) := ⟨_, rfl⟩
      rw [← hLM] at HOE HOKE HI2
      have HLM := hide hLM
      clear hO e hI hI2 hlq hLM
      obtain ⟨r0, f0⟩ := HI2.out.res.cell 0
      obtain ⟨r1, f1⟩ := HI2.out.res.cell 1
      obtain ⟨r2, f2⟩ := HI2.out.res.cell 2
      obtain ⟨b0, -⟩ := HI2.out.box.cell 0
      obtain ⟨b1, -⟩ := HI2.out.box.cell 1
      obtain ⟨b2, -⟩ := HI2.out.box.cell 2
      go_wp2
      refine bodyPost_ret (v := .agg #[.int .i64 k, .int .i64 f, .slice av LM.length cv]) (by simp [results, Tryd.results16, go_sem, r0, r1, r2]) rfl ?_
      have hw2 : w.heap.size + 1 < w.heap.size + 1 + 1 + 1 := by omega
      refine ⟨_, rfl, ?_, belowThree HI2.out.below _ (Nat.le_succ _) _ _ _⟩
      rw [← HLM.out]
      exact OwnR.rd (((HOE.out.set (w.heap.size + 1) _ hw2 _).set (w.heap.size + 1) _ hw2 _).set (w.heap.size + 1) _ hw2 _) HOKE.out
    have hlt' : (q : Int) < (l.length : Int) := by omega
    rcases HAO.out with h0 | ⟨c, off, rfl, hc⟩
    · rw [h0] at hlt; simp at hlt
    have hck := hc q hlt
    obtain ⟨c0, c1, c2, c3, c4, c5, c6⟩ := hck.keep (hI.out.below.block c hck.lt)
    have HUk := hide (HUP.out (l.getD q zeroR))
    have HMk := hide (HMS.out q hlt)
    have HOk := hide (HOKS.out (q + 1))
    obtain ⟨P2, hP2⟩ : ∃ P2, P2 = (l.take (q + 1)).map (upgR v) := ⟨_, rfl⟩
    rw [← hP2] at HMk
    have HP2 := hide hP2
    have hPl : ((l.take q).map (upgR v)).length ≤ 1000000 := by rw [List.length_map, List.length_take]; omega
    generalize (l.take q).map (upgR v) = P at *
    generalize l.getD q zeroR = r at *
    generalize upgR v r = X at *
    clear hc hck hP2
    go_wp2_with fail
    refine (HUk.out _).mono ?_
    rintro e W2 ⟨rfl, hb2⟩
    have HI2 := hide (hI.out.on hb2 (by have := hS.out; omega))
    have HO2 := hide (hO.out.below hb2 (Nat.le_refl _))
    have HS2 := hide (Nat.le_trans hS.out hb2.size)
    clear hb2 hI hO hS HUk c0 c1 c2 c3 c4 c5 c6 s2
    obtain ⟨NA, hNA⟩ : ∃ N, N = W2.heap.size := ⟨_, rfl⟩
    obtain ⟨WA, hWA⟩ : ∃ V, V = W2.alloc (.cells #[.int .i64 X.idx, .int .i64 X.proc, .int .i64 X.seq, .int .i64 X.op.code, .int .i64 X.op.a, .int .i64 X.op.b, .int .i64 X.resp] 48) := ⟨_, rfl⟩
    have hbA : Below W2.heap.size W2 WA := by rw [hWA]; exact (Below.refl _ _).alloc (Nat.le_refl _) _
    have HYA : Hid (Br WA NA #[.int .i64 X.idx, .int .i64 X.proc, .int .i64 X.seq, .int .i64 X.op.code, .int .i64 X.op.a, .int .i64 X.op.b, .int .i64 X.resp]) := hide (by rw [hWA, hNA]; exact heap_alloc_new W2 _)
    have HIA := hide (HI2.out.on hbA (by have := HS2.out; omega))
    have HOA := hide (HO2.out.below hbA (Nat.le_refl _))
    have HSA := hide (Nat.le_trans HS2.out hbA.size)
    go_upto_region 6 with fail
    rw [← hWA, ← hNA]
    clear hWA hNA hbA HI2 HO2 HS2
    obtain ⟨q0, -⟩ := HYA.out.cell 0
    obtain ⟨q1, -⟩ := HYA.out.cell 1
    obtain ⟨q2, -⟩ := HYA.out.cell 2
    obtain ⟨q3, -⟩ := HYA.out.cell 3
    obtain ⟨q4, -⟩ := HYA.out.cell 4
    obtain ⟨q5, -⟩ := HYA.out.cell 5
    obtain ⟨q6, -⟩ := HYA.out.cell 6
    obtain ⟨b2, -⟩ := HIA.out.box.cell 2
    go_wp2_with (at_builtin; refine wpList_append_rec _ rfl _ _ rfl (w.heap.size + 1 + 1 + 1) _ P rfl HOA.out X rfl (by omega) HSA.out ?_)
    intro v4 W4 ho4 hb4
    rw [← HMk.out] at ho4
    obtain ⟨a4, c4, rfl⟩ := ho4.shape
    have HI4 := hide ((HIA.out.on hb4 (Nat.lt_succ_self _)).put (.slice a4 P2.length c4))
    have HO4 := hide (ho4.set (w.heap.size + 1 + 1) 2 (Nat.lt_succ_self _) (.slice a4 P2.length c4))
    have HS4 : Hid (w.heap.size + 1 + 1 + 1 ≤ (W4.setCell ⟨w.heap.size + 1 + 1, 2, none⟩ (.slice a4 P2.length c4)).heap.size) := hide (by
      have h1 := ((Below.refl 0 W4).setCell (p := ⟨w.heap.size + 1 + 1, 2, none⟩) (Nat.zero_le _) (.slice a4 P2.length c4)).size
      have h2 := hb4.size
      have h3 := HSA.out
      omega)
    have hb := HIA.out.on hb4 (Nat.lt_succ_self _)
    obtain ⟨d2, g2⟩ := hb.box.cell 2
    clear ho4 hb4 hb q0 q1 q2 q3 q4 q5 q6 b2
    go_wp2
    go_roundw
    case rel => exact ⟨q + 1, .slice a4 P2.length c4, by go_num, by omega, hide (by rw [← HP2.out]; exact HO4.out), HI4, HS4⟩
    case measure => simp [intOf]; omega

end Go.Proofs.YtddhcohjmgdajaaDoor
