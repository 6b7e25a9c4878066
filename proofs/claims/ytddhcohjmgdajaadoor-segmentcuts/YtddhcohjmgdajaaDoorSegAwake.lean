/- awake of layer segment answers true: the chapter's example. -/
import Derived.Test.YtddhcohjmgdajaaDoorSegOwnD
namespace Go.Proofs.YtddhcohjmgdajaaDoor
open Go.RowKit

theorem seg_zero : ∃ C1 C2 : List UInt8, C1.length = 4 ∧ C2.length = 4 ∧ segL 3 zeroG = [4, 108, 3, 0, 0] ++ (C1 ++ ([1, 0] ++ C2)) := by
  have hm : MayG zeroG := by decide
  have hb : blocksS 3 ([] : List Rec) = [] := by unfold blocksS; rw [chunks_nil]; rfl
  have hh : headS 3 0 0 = [108, 3, 0, 0] := by unfold headS; rw [uv_small (by decide), uv_small (by decide)]; rfl
  have hf : footS (headS 3 0 0) [] = [0] := by unfold footS offsS; rw [List.length_nil, uv_small (by decide)]; rfl
  refine ⟨Lib.leBytes 4 (crcMore 0 (headOf [108, 3, 0, 0])), Lib.leBytes 4 (crcMore 0 (headOf [0])), Lib.leBytes_length _ _, Lib.leBytes_length _ _, ?_⟩
  unfold segL
  rw [if_pos (by decide), if_pos hm]
  show encS8 3 ⟨0, 0, []⟩ = _
  unfold encS8 partsS
  show framesOf (headS 3 0 0 :: (blocksS 3 [] ++ [footS (headS 3 0 0) (blocksS 3 [])])) = _
  rw [hb, hf, hh, List.nil_append, framesOf_cons, framesOf_cons]
  unfold frameOf
  have e1 : headOf [108, 3, 0, 0] = [4, 108, 3, 0, 0] := by unfold headOf; rw [show ([108, 3, 0, 0] : List UInt8).length = 4 from rfl, uv_small (by decide)]; rfl
  have e2 : headOf [0] = [1, 0] := by unfold headOf; rw [show ([0] : List UInt8).length = 1 from rfl, uv_small (by decide)]; rfl
  have e3 : framesOf [] = [] := rfl
  rw [e1, e2, e3, List.append_nil, List.append_assoc]

set_option maxRecDepth 100000 in
set_option maxHeartbeats 2000000 in
theorem awake8_any (w : World) (ht : TabF w) : Calls Tryd.prog 7 #[] w fun e w' => e = .returned (.bool true) ∧ Below w.heap.size w w' := by
  obtain ⟨C1, C2, h1, h2, hE⟩ := seg_zero
  have HEN : Hid (∀ W, TabF W → Calls Tryd.prog 8 #[.int .i64 3, .agg #[.int .i64 0, .int .i64 0, .slice none 0 0]] W fun e w' => ∃ v', e = .returned (.tuple #[v', .int .i64 0]) ∧ Own w' W.heap.size v' ([4, 108, 3, 0, 0] ++ (C1 ++ ([1, 0] ++ C2))) ∧ Below W.heap.size W w') := hide (fun W hW => by
    have h := encodeG_any 3 (.agg #[.int .i64 0, .int .i64 0, .slice none 0 0]) zeroG W ⟨.slice none 0 0, rfl, RdR.nil _, ⟨by decide, by decide⟩, ⟨by decide, by decide⟩⟩ (by decide) hW
    unfold EncodedG at h
    rw [hE] at h
    exact h)
  obtain ⟨E, hEE⟩ : ∃ E, E = [4, 108, 3, 0, 0] ++ (C1 ++ ([1, 0] ++ C2)) := ⟨_, rfl⟩
  rw [← hEE] at HEN
  have hlen : E.length = 15 := by rw [hEE]; simp; omega
  have t1 : E.take 5 = [4, 108, 3, 0, 0] := by rw [hEE]; rfl
  have t2 : (E.drop 9).take 2 = [1, 0] := by
    rw [hEE]
    have e : ([4, 108, 3, 0, 0] ++ (C1 ++ ([1, 0] ++ C2))).drop 9 = [1, 0] ++ C2 := by
      rw [← List.append_assoc, List.drop_left' (by simp; omega)]
    rw [e]
    rfl
  clear hEE hE h1 h2
  go_enter Tryd.func7, Tryd.ntmps7
  go_wp2_with fail
  refine (HEN.out _ ht).mono ?_
  rintro e W1 ⟨v1, rfl, ho1, hb1⟩
  have HB1 := hide hb1
  have hr1 := ho1.rd
  obtain ⟨a1, c1, rfl, -⟩ := ho1.rd
  have hf1 := run_cut_h W1 _ E hr1 .i64 5 (by decide) (by omega)
  have hf2 := run_cut_lh W1 _ E hr1 .i64 .i64 9 11 (by decide) (by decide) (by omega)
  obtain ⟨v2, k2, hr2⟩ := hf1
  obtain ⟨v3, k3, hr3⟩ := hf2
  have e5 : (5 : Int).toNat = 5 := rfl
  have e9 : (9 : Int).toNat = 9 := rfl
  have e11 : (11 : Int).toNat - (9 : Int).toNat = 2 := rfl
  rw [e5, t1] at hr2
  rw [e11, e9, t2] at hr3
  have s2 : (convert 26 9 v2).run Tryd.prog W1 = .ok (.string ⟨#[4, 108, 3, 0, 0]⟩) W1 := hr2.str
  have s3 : (convert 26 9 v3).run Tryd.prog W1 = .ok (.string ⟨#[1, 0]⟩) W1 := hr3.str
  rw [hlen] at k2 k3 ⊢
  clear ho1 hb1 hr1 hr2 hr3 t1 t2 hlen
  go_wp2
  go_ret
  exact ⟨rfl, HB1.out⟩

end Go.Proofs.YtddhcohjmgdajaaDoor
