/- Contracts of segment: blockData, blocks. -/
import Derived.Test.YtddhcohjmgdajaaDoorSegOwnA
import Derived.Test.YtddhcohjmgdajaaDoorBlockOwn
import Derived.Test.YtddhcohjmgdajaaDoorPack3
namespace Go.Proofs.YtddhcohjmgdajaaDoor
open Go.RowKit

/-- A block's data; none of no records. -/
def dataO (v : Nat) (l : List Rec) : List UInt8 := if l = [] then [] else dataV v l

theorem apartB {w wr : World} {B M : Nat} {x v : Value} {l P : List UInt8} (hx : Own w M x l) (hv : Own wr B v P) (hM : wr.heap.size ≤ M) : x.ownBlock = none ∨ x.ownBlock ≠ v.ownBlock := by
  cases hb : x.ownBlock with
  | none => exact .inl rfl
  | some g =>
    refine .inr (fun e => ?_)
    have h1 := (World.ownsRow.lt hx g hb).1
    have h2 := (World.ownsRow.lt hv g e.symm).2
    omega

theorem run_cutR_lhm (w : World) (v : Value) (l : List Rec) (hr : RdR w v l) (k k' k2 : IntKind) (i j m : Int) (h0 : 0 ≤ i) (h1 : i ≤ j) (h2 : j ≤ m) (h3 : m ≤ l.length) :
    ∃ v', (Instr.sliceAt 22 v (some (.int k i)) (some (.int k' j)) (some (.int k2 m))).run Tryd.prog w = .ok v' w ∧ RdR w v' ((l.drop i.toNat).take (j.toNat - i.toNat)) := by
  have h := hr
  obtain ⟨ao, cap, rfl, hlc, _⟩ := hr
  refine ⟨sliced ao i.toNat j.toNat m.toNat 7, ?_, h.mid i.toNat j.toNat m.toNat (by omega) (by omega) (by omega) (by omega)⟩
  rw [run_sliceAt_slice w 22 _ _ _ _ under_recs, run_slice_lhm w 22 ao l.length cap under_recs k k' k2 i j m h0 h1 h2 (by omega), elem_recs, size_rec]
  rfl

set_option maxRecDepth 100000 in
set_option maxHeartbeats 2000000 in
theorem blockData_any (v : Nat) (hv1 : 1 ≤ v) (hv3 : v ≤ 3) (vl : Value) (l : List Rec) (i : Int) (w : World) (hr : RdR w vl l) (h2 : l.length ≤ 16) (hok : RecsOk l i) (ht : TabF w) :
    Calls Tryd.prog 43 #[.int .i64 (v : Int), vl] w fun e w' => ∃ v', e = .returned v' ∧ Own w' w.heap.size v' (dataO v l) ∧ Below w.heap.size w w' := by
  by_cases h3 : v = 3
  · subst h3
    have HE := hide (blockEncodeB_any vl l w hr)
    unfold EncodedB at HE
    have e : (if FitsB l then encB l else []) = dataO 3 l := by
      unfold dataO
      by_cases hl : l = []
      · rw [if_pos hl, if_neg (fun h => by have := h.1; rw [hl] at this; simp at this)]
      · have h1 : 1 ≤ l.length := Nat.pos_of_ne_zero (fun h => hl (List.eq_nil_of_length_eq_zero h))
        rw [if_neg hl, if_pos (fitsB_of h1 h2 hok.2.1 hok.2.2)]
        exact (if_pos rfl).symm
    rw [e] at HE
    generalize dataO 3 l = D at *
    generalize (if FitsB l then (0 : Int) else 1) = er at *
    obtain ⟨ao, cap, rfl, -⟩ := hr
    clear e
    go_enter Tryd.func43, Tryd.ntmps43
    go_wp2_with fail
    refine HE.out.mono ?_
    rintro e W1 ⟨v1, rfl, ho1, hb1⟩
    have HO1 := hide ho1
    have HB1 := hide hb1
    clear ho1 hb1
    go_wp2
    go_ret
    exact ⟨_, rfl, HO1.out, HB1.out⟩
  have hne : ((v : Int) == 3) = false := beq_eq_false_iff_ne.2 (by omega)
  have HD : Hid (dataO v l = (l.take l.length).flatMap (elderE v)) := hide (by
    rw [List.take_length]
    unfold dataO
    by_cases hl : l = []
    · rw [if_pos hl, hl]; rfl
    · rw [if_neg hl]; exact if_neg h3)
  have HFL := hide (fun k => flatE_len hv1 hv3 (l.take k) (fun r hr => hok.2.1 r (List.mem_of_mem_take hr)))
  have HSN : Hid (∀ k, k < l.length → (l.take (k + 1)).flatMap (elderE v) = ((l.take k).flatMap (elderE v) ++ Lib.uvarint (encR v (l.getD k zeroR)).length) ++ encR v (l.getD k zeroR)) := hide (fun k hk => by
    rw [takeR_snoc hk, List.flatMap_append, List.flatMap_singleton]
    unfold elderE
    rw [List.append_assoc])
  have HEN : Hid (∀ k, k < l.length → ∀ W, TabF W → Calls Tryd.prog 63 #[.int .i64 (v : Int), recV (l.getD k zeroR)] W fun e w' => ∃ v', e = .returned (.tuple #[v', .int .i64 0]) ∧ Own w' W.heap.size v' (encR v (l.getD k zeroR)) ∧ Below W.heap.size W w') := hide (fun k hk W hT => by
    have hm : l.getD k zeroR ∈ l := by
      have : l.getD k zeroR = l[k] := by simp [List.getD, hk]
      rw [this]
      exact List.getElem_mem hk
    have hf := hok.2.1 _ hm
    have h := encodeR_any v (l.getD k zeroR) W hT
    unfold EncodedR encErr encL at h
    have hv : 1 ≤ (v : Int) ∧ (v : Int) ≤ 3 := ⟨by omega, by omega⟩
    rw [if_pos hv, if_pos hv, if_pos hf, if_pos hf] at h
    exact h)
  have HRL : Hid (∀ k, k < l.length → (encR v (l.getD k zeroR)).length ≤ 300) := hide (fun k hk => by
    have hm : l.getD k zeroR ∈ l := by
      have : l.getD k zeroR = l[k] := by simp [List.getD, hk]
      rw [this]
      exact List.getElem_mem hk
    exact encR_len hv1 hv3 (hok.2.1 _ hm))
  have HPU : Hid (∀ (n : Nat) W, n < 4611686018427387904 → Calls Tryd.prog 42 #[.slice none 0 0, .int .i64 (n : Int)] W fun e w' => ∃ v', e = .returned v' ∧ Own w' W.heap.size v' (Lib.uvarint n) ∧ Below W.heap.size W w') := fun n W n1 => by
    have h := put_any (.slice none 0 0) [] (n : Int) W (Rd.nil _) (by simp)
    have e : putOf [] (n : Int) = Lib.uvarint n := by
      unfold putOf
      rw [if_pos ⟨by omega, by omega⟩, Int.toNat_natCast, List.nil_append]
    rw [e] at h
    exact h
  have HTB := hide (fun W (hb : Below w.heap.size w W) => ht.below hb (Nat.le_refl _))
  obtain ⟨ao, cap, rfl, hlc, hcm, -, -, hao⟩ := hr
  have hml : (l.length : Int) ≤ 9223372036854775807 := by omega
  have HAO := hide hao
  rw [HD.out]
  clear hao hlc hcm hok h3 HD ht
  go_enter Tryd.func43, Tryd.ntmps43
  go_wp2
  go_loopw [7, 22] (fun vo vi wr => ∃ k : Nat, vi = .int .i64 (k : Int) ∧ k ≤ l.length ∧ Hid (Own wr w.heap.size vo ((l.take k).flatMap (elderE v))) ∧ Hid (Below w.heap.size w wr)) (fun _ vi _ => l.length - (intOf vi).toNat)
  case atStart => exact ⟨0, rfl, Nat.zero_le _, Own.nil _ _, Below.refl _ _⟩
  case round =>
    obtain ⟨k, rfl, hk, hO, hB⟩ := hrel
    by_cases hlt : k < l.length
    case neg =>
      obtain rfl : k = l.length := by omega
      go_wp2
      go_ret
      exact ⟨_, rfl, hO.out, hB.out⟩
    rcases HAO.out with h0 | ⟨c, off, rfl, hc⟩
    · rw [h0] at hlt; simp at hlt
    have hck := hc k hlt
    obtain ⟨c0, c1, c2, c3, c4, c5, c6⟩ := hck.keep (hB.out.block c hck.lt)
    have HENk := hide (HEN.out k hlt)
    unfold recV at HENk
    have hrl := HRL.out k hlt
    have HSk := hide (HSN.out k hlt)
    have HFk := hide (HFL.out k)
    have hlk : (l.take k).length = k := by rw [List.length_take]; omega
    rw [hlk] at HFk
    generalize l.getD k zeroR = r at *
    generalize (l.take k).flatMap (elderE v) = P at *
    generalize encR v r = E at *
    have HP1 := hide (fun W => HPU.out E.length W (by omega))
    obtain ⟨P2, hP2⟩ : ∃ P2, P2 = (l.take (k + 1)).flatMap (elderE v) := ⟨_, rfl⟩
    rw [← hP2] at HSk
    have HP2 := hide hP2
    clear hP2
    have hu10 : (Lib.uvarint E.length).length ≤ 10 := uv10' (by omega)
    have hPl : P.length ≤ 100000 := by have := HFk.out; omega
    have hPu : (P ++ Lib.uvarint E.length).length ≤ 200000 := by rw [List.length_append]; omega
    clear hc hck hlk HFk
    generalize Lib.uvarint E.length = U at *
    obtain ⟨PU, hPU⟩ : ∃ PU, PU = P ++ U := ⟨_, rfl⟩
    rw [← hPU] at HSk hPu
    have HPQ := hide hPU
    clear hPU
    go_upto_region 8 with fail
    obtain ⟨W0, hW0⟩ : ∃ W0, W0 = wr.alloc (.cells #[.int .i64 r.idx, .int .i64 r.proc, .int .i64 r.seq, .int .i64 r.op.code, .int .i64 r.op.a, .int .i64 r.op.b, .int .i64 r.resp] 48) := ⟨_, rfl⟩
    have hb0 : Below wr.heap.size wr W0 := by rw [hW0]; exact (Below.refl _ _).alloc (Nat.le_refl _) _
    have HBX : Hid (Br W0 wr.heap.size #[.int .i64 r.idx, .int .i64 r.proc, .int .i64 r.seq, .int .i64 r.op.code, .int .i64 r.op.a, .int .i64 r.op.b, .int .i64 r.resp]) := hide (by rw [hW0]; exact heap_alloc_new wr _)
    rw [← hW0]
    have HB0 := hide (hB.out.trans (hb0.mono hB.out.size))
    have HO0 := hide (hO.out.below hb0 (Nat.le_refl _))
    clear hW0 hb0 c0 c1 c2 c3 c4 c5 c6 hB hO
    obtain ⟨q0, -⟩ := HBX.out.cell 0
    obtain ⟨q1, -⟩ := HBX.out.cell 1
    obtain ⟨q2, -⟩ := HBX.out.cell 2
    obtain ⟨q3, -⟩ := HBX.out.cell 3
    obtain ⟨q4, -⟩ := HBX.out.cell 4
    obtain ⟨q5, -⟩ := HBX.out.cell 5
    obtain ⟨q6, -⟩ := HBX.out.cell 6
    go_wp2_with fail
    refine (HENk.out _ (HTB.out _ HB0.out)).mono ?_
    rintro e W1 ⟨v1, rfl, ho1, hb1⟩
    have HE1 := hide ho1
    obtain ⟨a1, x1, rfl, -⟩ := ho1.rd
    have HO1 := hide (HO0.out.below hb1 (Nat.le_refl _))
    have HB1 := hide (HB0.out.trans (hb1.mono HB0.out.size))
    have HAP := hide (apartB ho1 HO0.out (Nat.le_refl _))
    clear ho1 hb1 q0 q1 q2 q3 q4 q5 q6 HENk HBX
    go_wp2_with fail
    refine (HP1.out _).mono ?_
    rintro e W2 ⟨v2, rfl, ho2, hb2⟩
    have HU2 := hide ho2.rd
    have HE2 := hide (HE1.out.below hb2 (Nat.le_refl _))
    have HO2 := hide (HO1.out.below hb2 (Nat.le_refl _))
    have HB2 := hide (HB1.out.trans (hb2.mono HB1.out.size))
    have HS2 := hide HB2.out.size
    clear ho2 hb2 HO1 HB1 HE1
    go_wp2_with (at_builtin; refine wpList_append_rdg _ rfl _ _ rfl w.heap.size _ P rfl HO2.out _ U rfl HU2.out (by omega) HS2.out ?_)
    intro v3 W3 ho3 hg3
    rw [← HPQ.out] at ho3
    have HO3 := hide ho3
    have HE3 : Hid (Rd W3 _ E) := hide (Own.rd (World.ownsRow.kept HE2.out hg3 HAP.out))
    have HB3 := hide (HB2.out.grown hg3 HS2.out (fun k hk => (World.ownsRow.lt HO2.out k hk).1))
    have HS3 := hide HB3.out.size
    clear ho3 hg3 HO2 HE2 HB2 HU2
    go_wp2_with (at_builtin; refine wpList_append_rd _ rfl _ _ rfl w.heap.size _ PU rfl HO3.out _ E rfl HE3.out (by omega) HS3.out ?_)
    intro v4 W4 ho4 hb4
    rw [← HSk.out] at ho4
    have HO4 := hide ho4
    have HB4 := hide (HB3.out.trans hb4)
    clear ho4 hb4
    go_wp2
    go_roundw
    case rel => exact ⟨k + 1, by go_num, by omega, hide (by rw [← HP2.out]; exact HO4.out), HB4⟩
    case measure => simp [intOf]; omega

set_option maxRecDepth 100000 in
set_option maxHeartbeats 2000000 in
theorem blocks_any (v : Nat) (hv1 : 1 ≤ v) (hv3 : v ≤ 3) (vl : Value) (l : List Rec) (i : Int) (w : World) (hr : RdR w vl l) (hok : RecsOk l i) (ht : TabF w) :
    Calls Tryd.prog 21 #[.int .i64 (v : Int), vl] w fun e w' => ∃ v', e = .returned v' ∧ OwnL w' w.heap.size v' (blocksS v l) ∧ Below w.heap.size w w' := by
  have HR := hide hr
  have hlen := blocksS_len (v := v) l
  have h4 := hok.1
  have HMS := hide (fun k hk => takeL_snoc (L := blocksS v l) (q := k) hk)
  have HDA : Hid (∀ k, k < (blocksS v l).length → ∀ v1 W, RdR W v1 ((l.drop (16 * k)).take 16) → TabF W → Calls Tryd.prog 43 #[.int .i64 (v : Int), v1] W fun e w' => ∃ v', e = .returned v' ∧ Own w' W.heap.size v' ((blocksS v l).getD k []) ∧ Below W.heap.size W w') := hide (fun k hk v1 W h hT => by
    have h0 : (l.drop (16 * k)).take 16 ≠ [] := fun e => by
      have := congrArg List.length e
      rw [List.length_take, List.length_drop, List.length_nil] at this
      omega
    have hx := blockData_any v hv1 hv3 v1 _ (i + (16 * k : Nat)) W h (by rw [List.length_take]; omega) (recsOk_mid hok (16 * k) 16 (by omega)) hT
    have e : dataO v ((l.drop (16 * k)).take 16) = (blocksS v l).getD k [] := by
      rw [blocks_get v l k hk]
      exact if_neg h0
    rw [e] at hx
    exact hx)
  have HALL : Hid ((blocksS v l).take (blocksS v l).length = blocksS v l) := hide (by rw [List.take_length])
  have hln : (blocksS v l).length ≤ 256 := by omega
  have HTB := hide (fun W (hb : Below w.heap.size w W) => ht.below hb (Nat.le_refl _))
  clear hok ht
  obtain ⟨ao, cap, rfl, hlc, hcm, -⟩ := hr
  clear hlc hcm
  generalize blocksS v l = B at *
  go_enter Tryd.func21, Tryd.ntmps21
  go_wp2
  go_loopw [5, 6] (fun vo vi wr => ∃ k : Nat, vi = .int .i64 ((16 * k : Nat) : Int) ∧ k ≤ B.length ∧ Hid (OwnL wr w.heap.size vo (B.take k)) ∧ Hid (Below w.heap.size w wr)) (fun _ vi _ => 16 * B.length + 16 - (intOf vi).toNat)
  case atStart => exact ⟨0, rfl, Nat.zero_le _, OwnL.nil _ _, Below.refl _ _⟩
  case round =>
    obtain ⟨k, rfl, hk, hO, hB⟩ := hrel
    by_cases hlt : k < B.length
    case neg =>
      have e : k = B.length := by omega
      have hge : ¬ ((16 * k : Nat) : Int) < (l.length : Int) := by omega
      have HOE : Hid (OwnL wr w.heap.size u5 B) := hide (by rw [← HALL.out, ← e]; exact hO.out)
      clear hO e
      generalize ((16 * k : Nat) : Int) = I at *
      go_wp2
      go_ret
      exact ⟨_, rfl, HOE.out, hB.out⟩
    have hge : ((16 * k : Nat) : Int) < (l.length : Int) := by omega
    have HSk := hide (HMS.out k hlt)
    have HDk := hide (HDA.out k hlt)
    have hPl : (B.take k).length ≤ 1000000 := by rw [List.length_take]; omega
    have HCUT : Hid (∀ j : Int, j = min ((16 * k : Nat) + 16 : Int) (l.length : Int) → ∃ v', (Instr.sliceAt 22 (.slice ao l.length cap) (some (.int .i64 ((16 * k : Nat) : Int))) (some (.int .i64 j)) (some (.int .i64 j))).run Tryd.prog wr = .ok v' wr ∧ RdR wr v' ((l.drop (16 * k)).take 16)) := hide (fun j hj => by
      have h := run_cutR_lhm wr _ l (HR.out.below hB.out (Nat.le_refl _)) .i64 .i64 .i64 ((16 * k : Nat) : Int) j j (by omega) (by omega) (by omega) (by omega)
      rw [Int.toNat_natCast] at h
      obtain ⟨v', h1, h2⟩ := h
      refine ⟨v', h1, ?_⟩
      by_cases hc : 16 * k + 16 ≤ l.length
      · have e : j.toNat - 16 * k = 16 := by omega
        rw [e] at h2
        exact h2
      · have e : (l.drop (16 * k)).take (j.toNat - 16 * k) = (l.drop (16 * k)).take 16 := by
          rw [List.take_of_length_le (by rw [List.length_drop]; omega), List.take_of_length_le (by rw [List.length_drop]; omega)]
        rw [e] at h2
        exact h2)
    obtain ⟨P2, hP2⟩ : ∃ P2, P2 = B.take (k + 1) := ⟨_, rfl⟩
    rw [← hP2] at HSk
    have HP2 := hide hP2
    have hnx : ((16 * k : Nat) : Int) + 16 = ((16 * (k + 1) : Nat) : Int) := by omega
    have hi0 : 0 ≤ ((16 * k : Nat) : Int) := by omega
    have hi1 : ((16 * k : Nat) : Int) ≤ 4096 := by omega
    have HNX := hide hnx
    generalize B.take k = P at *
    generalize B.getD k [] = fy at *
    generalize (l.drop (16 * k)).take 16 = c at *
    obtain ⟨I, hI⟩ : ∃ I : Int, I = ((16 * k : Nat) : Int) := ⟨_, rfl⟩
    rw [← hI] at hge HCUT hi0 hi1 HNX ⊢
    have HI := hide hI
    have HTW := hide (HTB.out _ hB.out)
    clear hP2 hnx hI
    by_cases hen : (l.length : Int) < I + 16
    · have HC := hide (HCUT.out (l.length : Int) (by omega))
      have hmn : min (I + 16) (l.length : Int) = (l.length : Int) := by omega
      clear HCUT
      go_wp2_with (refine wpList_cutR _ rfl _ _ _ _ rfl _ HC.out ?_)
      intro v1 hr1
      have HR1 := hide hr1
      clear hr1 HC
      go_wp2_with fail
      refine (HDk.out _ _ HR1.out HTW.out).mono ?_
      rintro e W2 ⟨v2, rfl, ho2, hb2⟩
      have HY2 := hide (ho2.mono hB.out.size)
      have HL2 := hide (hO.out.below hb2 (Nat.le_refl _))
      have HB2 := hide (hB.out.trans (hb2.mono hB.out.size))
      have hs2 := HB2.out.size
      obtain ⟨a2, c2, rfl, -⟩ := ho2.rd
      clear ho2 hb2 HR1
      go_wp2_with (at_builtin; refine wpList_append_snoc _ rfl _ _ rfl w.heap.size _ P rfl HL2.out _ fy rfl HY2.out (by omega) hs2 ?_)
      intro v4 W4 ho4 hb4
      rw [← HSk.out] at ho4
      have HO4 := hide ho4
      have HB4 := hide (HB2.out.trans hb4)
      clear ho4 hb4
      go_wp2
      go_roundw
      case rel => exact ⟨k + 1, by rw [← HNX.out], by omega, hide (by rw [← HP2.out]; exact HO4.out), HB4⟩
      case measure =>
        have := HI.out
        simp [intOf]
        omega
    · have HC := hide (HCUT.out (I + 16) (by omega))
      have hmn : min (I + 16) (l.length : Int) = I + 16 := by omega
      clear HCUT
      go_wp2_with (refine wpList_cutR _ rfl _ _ _ _ rfl _ HC.out ?_)
      intro v1 hr1
      have HR1 := hide hr1
      clear hr1 HC
      go_wp2_with fail
      refine (HDk.out _ _ HR1.out HTW.out).mono ?_
      rintro e W2 ⟨v2, rfl, ho2, hb2⟩
      have HY2 := hide (ho2.mono hB.out.size)
      have HL2 := hide (hO.out.below hb2 (Nat.le_refl _))
      have HB2 := hide (hB.out.trans (hb2.mono hB.out.size))
      have hs2 := HB2.out.size
      obtain ⟨a2, c2, rfl, -⟩ := ho2.rd
      clear ho2 hb2 HR1
      go_wp2_with (at_builtin; refine wpList_append_snoc _ rfl _ _ rfl w.heap.size _ P rfl HL2.out _ fy rfl HY2.out (by omega) hs2 ?_)
      intro v4 W4 ho4 hb4
      rw [← HSk.out] at ho4
      have HO4 := hide ho4
      have HB4 := hide (HB2.out.trans hb4)
      clear ho4 hb4
      go_wp2
      go_roundw
      case rel => exact ⟨k + 1, by rw [← HNX.out], by omega, hide (by rw [← HP2.out]; exact HO4.out), HB4⟩
      case measure =>
        have := HI.out
        simp [intOf]
        omega

end Go.Proofs.YtddhcohjmgdajaaDoor
