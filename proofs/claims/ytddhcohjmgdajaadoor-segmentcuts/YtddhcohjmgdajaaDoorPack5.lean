import Derived.Test.YtddhcohjmgdajaaDoorPack4
import Derived.Deep.RegionHeld
import Derived.Test.YtddhcohjmgdajaaDoorPack2
import Derived.Test.YtddhcohjmgdajaaDoorPack1
import Derived.Lib.LazyBuf
import Derived.Shelf.Slices.Delete
import Derived.Lib.RowBridge
import Derived.ChangeSlices
import Derived.Deep.Slices
import Derived.WideShapes
/- Contracts of ferrymanref08: framed, frames, Body, Encode. -/
namespace Go.Proofs.YtddhcohjmgdajaaDoor
open Go.RowKit

theorem map_snoc (L : List (List UInt8)) (q : Nat) (h : q < L.length) : (L.take (q + 1)).map frameOf = (L.take q).map frameOf ++ [frameOf (L.getD q [])] := by
  rw [takeL_snoc h, List.map_append]
  rfl

theorem getD_mem {L : List (List UInt8)} {q : Nat} (h : q < L.length) : L.getD q [] ∈ L := by
  have e : L.getD q [] = L[q] := by simp [List.getD, h]
  rw [e]
  exact List.getElem_mem h

theorem blocks_get (v : Nat) (l : List Rec) (k : Nat) (hk : k < (blocksS v l).length) : (blocksS v l).getD k [] = dataV v ((l.drop (16 * k)).take 16) := by
  have hkc : k < (chunks l).length := by unfold blocksS at hk; rw [List.length_map] at hk; exact hk
  have h : (blocksS v l)[k]? = some (dataV v ((l.drop (16 * k)).take 16)) := by
    unfold blocksS
    rw [List.getElem?_map, List.getElem?_eq_getElem hkc, chunks_get l k hkc]
    rfl
  simp [List.getD, h]

theorem recsOk_mid {l : List Rec} {i : Int} (h : RecsOk l i) (a n : Nat) (ha : a ≤ l.length) : RecsOk ((l.drop a).take n) (i + a) := by
  rw [← List.take_append_drop a l] at h
  have h2 := (recsOk_app h).2
  have e : (l.take a).length = a := by rw [List.length_take]; omega
  rw [e, ← List.take_append_drop n (l.drop a)] at h2
  exact (recsOk_app h2).1

set_option maxRecDepth 100000 in
set_option maxHeartbeats 2000000 in
theorem refFrames_any (v : Nat) (hv1 : 1 ≤ v) (hv3 : v ≤ 3) (vl : Value) (l : List Rec) (i : Int) (w : World) (hr : RdR w vl l) (hok : RecsOk l i) :
    Calls Tryd.prog 25 #[.int .i64 (v : Int), vl] w fun e w' => ∃ v', e = .returned v' ∧ OwnL w' w.heap.size v' ((blocksS v l).map frameOf) ∧ Below w.heap.size w w' := by
  have HR := hide hr
  have hlen := blocksS_len (v := v) l
  have hbl := blocks_len hv1 hv3 hok.2.1
  have h4 := hok.1
  have HMS := hide (fun k hk => map_snoc (blocksS v l) k hk)
  have HDA : Hid (∀ k, k < (blocksS v l).length → ∀ v1 W, RdR W v1 ((l.drop (16 * k)).take 16) → Calls Tryd.prog 45 #[.int .i64 (v : Int), v1] W fun e w' => ∃ v', e = .returned v' ∧ Own w' W.heap.size v' ((blocksS v l).getD k []) ∧ Below W.heap.size W w') := hide (fun k hk v1 W h => by
    rw [blocks_get v l k hk]
    exact refData_any v hv1 hv3 v1 _ (i + (16 * k : Nat)) W h (by rw [List.length_take, List.length_drop]; omega) (by rw [List.length_take]; omega) (recsOk_mid hok (16 * k) 16 (by omega)))
  have HEN : Hid (∀ k, k < (blocksS v l).length → ∀ v1 W, Rd W v1 ((blocksS v l).getD k []) → Calls Tryd.prog 26 #[v1] W fun e w' => ∃ v', e = .returned (.tuple #[v', .int .i64 0]) ∧ Own w' W.heap.size v' (frameOf ((blocksS v l).getD k [])) ∧ Below W.heap.size W w') := hide (fun k hk v1 W h => by
    have h := refEncode_any v1 _ W h
    rw [frame_ok (by have := hbl _ (getD_mem hk); omega)] at h
    exact h)
  have HALL : Hid (((blocksS v l).take (blocksS v l).length).map frameOf = (blocksS v l).map frameOf) := hide (by rw [List.take_length])
  have hln : (blocksS v l).length ≤ 256 := by omega
  clear hbl hok
  obtain ⟨ao, cap, rfl, hlc, hcm, -⟩ := hr
  clear hlc hcm
  generalize blocksS v l = B at *
  go_enter Tryd.func25, Tryd.ntmps25
  go_wp2
  go_loopw [5, 6] (fun vo vi wr => ∃ k : Nat, vi = .int .i64 ((16 * k : Nat) : Int) ∧ k ≤ B.length ∧ Hid (OwnL wr w.heap.size vo ((B.take k).map frameOf)) ∧ Hid (Below w.heap.size w wr)) (fun _ vi _ => 16 * B.length + 16 - (intOf vi).toNat)
  case atStart => exact ⟨0, rfl, Nat.zero_le _, OwnL.nil _ _, Below.refl _ _⟩
  case round =>
    obtain ⟨k, rfl, hk, hO, hB⟩ := hrel
    by_cases hlt : k < B.length
    case neg =>
      have e : k = B.length := by omega
      have hge : ¬ ((16 * k : Nat) : Int) < (l.length : Int) := by omega
      have HOE : Hid (OwnL wr w.heap.size u5 (B.map frameOf)) := hide (by rw [← HALL.out, ← e]; exact hO.out)
      clear hO e
      generalize ((16 * k : Nat) : Int) = I at *
      go_wp2
      go_ret
      exact ⟨_, rfl, HOE.out, hB.out⟩
    have hge : ((16 * k : Nat) : Int) < (l.length : Int) := by omega
    have HSk := hide (HMS.out k hlt)
    have HEk := hide (HEN.out k hlt)
    have HDk := hide (HDA.out k hlt)
    have hPl : ((B.take k).map frameOf).length ≤ 1000000 := by rw [List.length_map, List.length_take]; omega
    have HCUT : Hid (∀ j : Int, j = min ((16 * k : Nat) + 16 : Int) (l.length : Int) → ∃ v', (Instr.sliceAt 22 (.slice ao l.length cap) (some (.int .i64 ((16 * k : Nat) : Int))) (some (.int .i64 j)) none).run Tryd.prog wr = .ok v' wr ∧ RdR wr v' ((l.drop (16 * k)).take 16)) := hide (fun j hj => by
      have h := run_cutR_lh wr _ l (HR.out.below hB.out (Nat.le_refl _)) .i64 .i64 ((16 * k : Nat) : Int) j (by omega) (by omega) (by omega)
      rw [Int.toNat_natCast] at h
      obtain ⟨v', h1, h2⟩ := h
      refine ⟨v', h1, ?_⟩
      by_cases hc : 16 * k + 16 ≤ l.length
      · have e : j.toNat - 16 * k = 16 := by omega
        rw [e] at h2
        exact h2
      · have e : (l.drop (16 * k)).take (j.toNat - 16 * k) = (l.drop (16 * k)).take 16 := by
          rw [List.take_of_length_le (by rw [List.length_drop]; omega), List.take_of_length_le (by rw [List.length_drop]; omega)]
        rw [e] at h2
        exact h2)
    obtain ⟨P2, hP2⟩ : ∃ P2, P2 = (B.take (k + 1)).map frameOf := ⟨_, rfl⟩
    rw [← hP2] at HSk
    have HP2 := hide hP2
    have hnx : ((16 * k : Nat) : Int) + 16 = ((16 * (k + 1) : Nat) : Int) := by omega
    have hi0 : 0 ≤ ((16 * k : Nat) : Int) := by omega
    have hi1 : ((16 * k : Nat) : Int) ≤ 4096 := by omega
    have HNX := hide hnx
    generalize (B.take k).map frameOf = P at *
    generalize B.getD k [] = y at *
    generalize frameOf y = fy at *
    generalize (l.drop (16 * k)).take 16 = c at *
    have HM : Hid (intOf (.int .i64 ((16 * k : Nat) : Int)) = ((16 * k : Nat) : Int)) := rfl
    obtain ⟨I, hI⟩ : ∃ I : Int, I = ((16 * k : Nat) : Int) := ⟨_, rfl⟩
    rw [← hI] at hge HCUT hi0 hi1 HNX ⊢
    have HI := hide hI
    clear hP2 hnx hI HM
    by_cases hen : (l.length : Int) < I + 16
    · have HC := hide (HCUT.out (l.length : Int) (by omega))
      clear HCUT
      go_wp2_with (refine wpList_cutR _ rfl _ _ _ _ rfl _ HC.out ?_)
      intro v1 hr1
      have HR1 := hide hr1
      clear hr1 HC
      go_wp2_with fail
      refine (HDk.out _ _ HR1.out).mono ?_
      rintro e W2 ⟨v2, rfl, ho2, hb2⟩
      have HY2 := hide ho2.rd
      have HL2 := hide (hO.out.below hb2 (Nat.le_refl _))
      have HB2 := hide (hB.out.trans (hb2.mono hB.out.size))
      clear ho2 hb2 HR1
      go_wp2_with fail
      refine (HEk.out _ _ HY2.out).mono ?_
      rintro e W3 ⟨v3, rfl, ho3, hb3⟩
      have HO3 := hide (ho3.mono HB2.out.size)
      have HL3 := hide (HL2.out.below hb3 (Nat.le_refl _))
      have HB3 := hide (HB2.out.trans (hb3.mono HB2.out.size))
      have hs3 := HB3.out.size
      obtain ⟨a3, c3, rfl, -⟩ := ho3.rd
      clear ho3 hb3 HY2 HL2 HB2
      go_wp2_with (at_builtin; refine wpList_append_snoc _ rfl _ _ rfl w.heap.size _ P rfl HL3.out _ fy rfl HO3.out (by omega) hs3 ?_)
      intro v4 W4 ho4 hb4
      rw [← HSk.out] at ho4
      have HO4 := hide ho4
      have HB4 := hide (HB3.out.trans hb4)
      clear ho4 hb4
      go_wp2
      go_roundw
      case rel => exact ⟨k + 1, by rw [← HNX.out], by omega, hide (by rw [← HP2.out]; exact HO4.out), HB4⟩
      case measure =>
        have := HI.out
        simp [intOf]
        omega
    · have HC := hide (HCUT.out (I + 16) (by omega))
      clear HCUT
      go_wp2_with (refine wpList_cutR _ rfl _ _ _ _ rfl _ HC.out ?_)
      intro v1 hr1
      have HR1 := hide hr1
      clear hr1 HC
      go_wp2_with fail
      refine (HDk.out _ _ HR1.out).mono ?_
      rintro e W2 ⟨v2, rfl, ho2, hb2⟩
      have HY2 := hide ho2.rd
      have HL2 := hide (hO.out.below hb2 (Nat.le_refl _))
      have HB2 := hide (hB.out.trans (hb2.mono hB.out.size))
      clear ho2 hb2 HR1
      go_wp2_with fail
      refine (HEk.out _ _ HY2.out).mono ?_
      rintro e W3 ⟨v3, rfl, ho3, hb3⟩
      have HO3 := hide (ho3.mono HB2.out.size)
      have HL3 := hide (HL2.out.below hb3 (Nat.le_refl _))
      have HB3 := hide (HB2.out.trans (hb3.mono HB2.out.size))
      have hs3 := HB3.out.size
      obtain ⟨a3, c3, rfl, -⟩ := ho3.rd
      clear ho3 hb3 HY2 HL2 HB2
      go_wp2_with (at_builtin; refine wpList_append_snoc _ rfl _ _ rfl w.heap.size _ P rfl HL3.out _ fy rfl HO3.out (by omega) hs3 ?_)
      intro v4 W4 ho4 hb4
      rw [← HSk.out] at ho4
      have HO4 := hide ho4
      have HB4 := hide (HB3.out.trans hb4)
      clear ho4 hb4
      go_wp2
      go_roundw
      case rel => exact ⟨k + 1, by rw [← HNX.out], by omega, hide (by rw [← HP2.out]; exact HO4.out), HB4⟩
      case measure =>
        have := HI.out
        simp [intOf]
        omega

end Go.Proofs.YtddhcohjmgdajaaDoor

/- Contracts of ferrymanref08: Body, Encode. -/
namespace Go.Proofs.YtddhcohjmgdajaaDoor
open Go.RowKit

def bodyErr (v : Int) (l : List Rec) : Int := if 1 ≤ v ∧ v ≤ 3 then (if RecsOk l (l.headD zeroR).idx then 0 else 1) else 6

def bodyL (v : Int) (l : List Rec) : List UInt8 := if 1 ≤ v ∧ v ≤ 3 then (if RecsOk l (l.headD zeroR).idx then framesOf (blocksS v.toNat l) else []) else []

/-- What Body answers. -/
def Bodied (w : World) (v : Int) (l : List Rec) (e : Ending) (w' : World) : Prop :=
  ∃ v', e = .returned (.tuple #[v', .int .i64 (bodyErr v l)]) ∧ Own w' w.heap.size v' (bodyL v l) ∧ Below w.heap.size w w'

theorem flatten_frames (B : List (List UInt8)) : (B.map frameOf).flatten = framesOf B := by
  unfold framesOf
  rw [List.flatMap_def]

theorem framesOf_len : ∀ (B : List (List UInt8)), (∀ d ∈ B, d.length ≤ 6000) → (framesOf B).length ≤ 6014 * B.length
  | [], _ => by simp [framesOf]
  | x :: B, h => by
    have hx := h x (by simp)
    have h1 := frameOf_len6 (d := x) (by omega)
    have ih := framesOf_len B (fun d hd => h d (by simp [hd]))
    rw [framesOf_cons, List.length_append, List.length_cons]
    omega

theorem headD_ok {w : World} {v : Value} {l : List Rec} (h : RdR w v l) : I64 (l.headD zeroR).idx := by
  obtain ⟨_, _, _, _, _, _, hw, _⟩ := h
  cases l with
  | nil => exact ⟨by decide, by decide⟩
  | cons r t =>
    have := hw r (by simp)
    exact this.1

set_option maxRecDepth 100000 in
set_option maxHeartbeats 2000000 in
theorem refBody_any (v : Int) (vl : Value) (l : List Rec) (w : World) (hr : RdR w vl l) :
    Calls Tryd.prog 13 #[.int .i64 v, vl] w fun e w' => Bodied w v l e w' := by
  unfold Bodied bodyErr bodyL
  have HR := hide hr
  have hi := headD_ok hr
  have HRC := hide (fun W (h : RdR W vl l) => records_any vl l (l.headD zeroR).idx W h hi)
  by_cases hv1 : 1 ≤ v
  case neg =>
    have hv1' : v < 1 := by omega
    rw [if_neg (fun h => hv1 h.1), if_neg (fun h => hv1 h.1)]
    obtain ⟨ao, cap, rfl, -⟩ := hr
    clear hv1 hi HRC
    go_enter Tryd.func13, Tryd.ntmps13
    go_wp2
    go_ret2
    exact ⟨_, rfl, Own.nil _ _, Below.refl _ _⟩
  have hv1' : ¬ v < 1 := by omega
  by_cases hv3 : v ≤ 3
  case neg =>
    have hv3' : 3 < v := by omega
    rw [if_neg (fun h => hv3 h.2), if_neg (fun h => hv3 h.2)]
    obtain ⟨ao, cap, rfl, -⟩ := hr
    clear hv1 hv3 hi HRC
    go_enter Tryd.func13, Tryd.ntmps13
    go_wp2
    go_ret2
    exact ⟨_, rfl, Own.nil _ _, Below.refl _ _⟩
  have hv3' : ¬ 3 < v := by omega
  have hv : 1 ≤ v ∧ v ≤ 3 := ⟨hv1, hv3⟩
  rw [if_pos hv, if_pos hv]
  clear hi
  obtain ⟨n, rfl⟩ : ∃ n : Nat, v = (n : Int) := ⟨v.toNat, by omega⟩
  rw [Int.toNat_natCast]
  have HFRM := hide (fun (hok : RecsOk l (l.headD zeroR).idx) W (h : RdR W vl l) => refFrames_any n (by omega) (by omega) vl l _ W h hok)
  have HJ : Hid (RecsOk l (l.headD zeroR).idx → ∀ v1 W, RdL W v1 ((blocksS n l).map frameOf) → Calls Tryd.prog 28 #[v1] W fun e w' => ∃ v', e = .returned v' ∧ Own w' W.heap.size v' (framesOf (blocksS n l)) ∧ Below W.heap.size W w') := hide (fun hok v1 W h => by
    have h1 := framesOf_len (blocksS n l) (blocks_len (by omega) (by omega) hok.2.1)
    have h2 := blocksS_len (v := n) l
    have h3 := hok.1
    have := refJoined_any v1 _ W h (by rw [flatten_frames]; omega)
    rw [flatten_frames] at this
    exact this)
  have hc0 : l.length = 0 → (l.headD zeroR).idx = 0 := fun h => by
    have e : l = [] := List.eq_nil_of_length_eq_zero h
    rw [e]
    rfl
  have hc1 : l.length ≠ 0 → l.headD zeroR = l.getD 0 zeroR := fun h => by
    cases l with
    | nil => exact absurd rfl h
    | cons r t => rfl
  obtain ⟨ao, cap, rfl, hlc, hcm, -, -, hao⟩ := hr
  clear hlc hcm
  by_cases h0 : l.length = 0
  · have hz := hc0 h0
    have hnl : ¬ (0 : Int) < (l.length : Int) := by omega
    rw [hz] at HRC HFRM HJ ⊢
    clear hc0 hc1 hz hao h0
    by_cases hok : RecsOk l 0
    · rw [if_pos hok, if_pos hok]
      rw [decide_eq_true hok] at HRC
      have HF2 := hide (HFRM.out hok)
      have HJ2 := hide (HJ.out hok)
      clear hok HFRM HJ
      go_enter Tryd.func13, Tryd.ntmps13
      go_wp2_with fail
      refine (HRC.out _ HR.out).mono ?_
      rintro e W1 ⟨rfl, hb1⟩
      have HB1 := hide hb1
      clear hb1
      go_wp2_with fail
      refine (HF2.out _ (HR.out.below HB1.out (Nat.le_refl _))).mono ?_
      rintro e W2 ⟨v2, rfl, ho2, hb2⟩
      have HL2 := hide ho2.rd
      have HB2 := hide (HB1.out.trans (hb2.mono HB1.out.size))
      clear ho2 hb2
      go_wp2_with fail
      refine (HJ2.out _ _ HL2.out).mono ?_
      rintro e W3 ⟨v3, rfl, ho3, hb3⟩
      have HO3 := hide (ho3.mono HB2.out.size)
      have HB3 := hide (HB2.out.trans (hb3.mono HB2.out.size))
      clear ho3 hb3
      go_wp2
      go_ret2
      exact ⟨_, rfl, HO3.out, HB3.out⟩
    · rw [if_neg hok, if_neg hok]
      rw [decide_eq_false hok] at HRC
      clear hok HFRM HJ
      go_enter Tryd.func13, Tryd.ntmps13
      go_wp2_with fail
      refine (HRC.out _ HR.out).mono ?_
      rintro e W1 ⟨rfl, hb1⟩
      have HB1 := hide hb1
      clear hb1
      go_wp2
      go_ret2
      exact ⟨_, rfl, Own.nil _ _, HB1.out⟩
  · have hnl : (0 : Int) < (l.length : Int) := by omega
    rcases hao with he | ⟨c, off, rfl, hc⟩
    · rw [he] at h0; simp at h0
    have hck := hc 0 (by omega)
    have hk0 := hck.1
    rw [← hc1 h0, Nat.zero_mul, Nat.add_zero] at hk0
    generalize (l.headD zeroR).idx = ix at *
    clear hc0 hc1 hc hck h0
    by_cases hok : RecsOk l ix
    · rw [if_pos hok, if_pos hok]
      rw [decide_eq_true hok] at HRC
      have HF2 := hide (HFRM.out hok)
      have HJ2 := hide (HJ.out hok)
      clear hok HFRM HJ
      go_enter Tryd.func13, Tryd.ntmps13
      go_wp2_with fail
      refine (HRC.out _ HR.out).mono ?_
      rintro e W1 ⟨rfl, hb1⟩
      have HB1 := hide hb1
      clear hb1
      go_wp2_with fail
      refine (HF2.out _ (HR.out.below HB1.out (Nat.le_refl _))).mono ?_
      rintro e W2 ⟨v2, rfl, ho2, hb2⟩
      have HL2 := hide ho2.rd
      have HB2 := hide (HB1.out.trans (hb2.mono HB1.out.size))
      clear ho2 hb2
      go_wp2_with fail
      refine (HJ2.out _ _ HL2.out).mono ?_
      rintro e W3 ⟨v3, rfl, ho3, hb3⟩
      have HO3 := hide (ho3.mono HB2.out.size)
      have HB3 := hide (HB2.out.trans (hb3.mono HB2.out.size))
      clear ho3 hb3
      go_wp2
      go_ret2
      exact ⟨_, rfl, HO3.out, HB3.out⟩
    · rw [if_neg hok, if_neg hok]
      rw [decide_eq_false hok] at HRC
      clear hok HFRM HJ
      go_enter Tryd.func13, Tryd.ntmps13
      go_wp2_with fail
      refine (HRC.out _ HR.out).mono ?_
      rintro e W1 ⟨rfl, hb1⟩
      have HB1 := hide hb1
      clear hb1
      go_wp2
      go_ret2
      exact ⟨_, rfl, Own.nil _ _, HB1.out⟩

def segErr (v : Int) (s : Seg) : Int := if 1 ≤ v ∧ v ≤ 3 then (if MayG s then 0 else 1) else 6

def segL (v : Int) (s : Seg) : List UInt8 := if 1 ≤ v ∧ v ≤ 3 then (if MayG s then encS8 v.toNat s else []) else []

/-- What Encode answers. -/
def EncodedG (w : World) (v : Int) (s : Seg) (e : Ending) (w' : World) : Prop :=
  ∃ v', e = .returned (.tuple #[v', .int .i64 (segErr v s)]) ∧ Own w' w.heap.size v' (segL v s) ∧ Below w.heap.size w w'

set_option maxRecDepth 100000 in
set_option maxHeartbeats 2000000 in
theorem refEncodeG_any (v : Int) (vs : Value) (s : Seg) (w : World) (hs : SgV w vs s) :
    Calls Tryd.prog 9 #[.int .i64 v, vs] w fun e w' => EncodedG w v s e w' := by
  unfold EncodedG segErr segL
  have HM := hide (fun W h => refMay_any vs s W h)
  have HSV := hide hs
  obtain ⟨vl, rfl, hr, -, -⟩ := hs
  have HR := hide hr
  have HB0 : Hid (∀ X, Below w.heap.size w (w.alloc X)) := fun X => (Below.refl _ _).alloc (Nat.le_refl _) X
  have X1 : Hid (∀ cs, Bsg (w.alloc (.cells cs 24)) w.heap.size cs) := fun cs => heap_alloc_new w _
  obtain ⟨al, cl, rfl, -⟩ := hr
  by_cases hv1 : 1 ≤ v
  case neg =>
    have hv1' : v < 1 := by omega
    rw [if_neg (fun h => hv1 h.1), if_neg (fun h => hv1 h.1)]
    clear hv1 HM
    go_enter Tryd.func9, Tryd.ntmps9
    go_wp2
    go_ret2
    exact ⟨_, rfl, Own.nil _ _, HB0.out _⟩
  have hv1' : ¬ v < 1 := by omega
  by_cases hv3 : v ≤ 3
  case neg =>
    have hv3' : 3 < v := by omega
    rw [if_neg (fun h => hv3 h.2), if_neg (fun h => hv3 h.2)]
    clear hv1 hv3 HM
    go_enter Tryd.func9, Tryd.ntmps9
    go_wp2
    go_ret2
    exact ⟨_, rfl, Own.nil _ _, HB0.out _⟩
  have hv3' : ¬ 3 < v := by omega
  have hv : 1 ≤ v ∧ v ≤ 3 := ⟨hv1, hv3⟩
  rw [if_pos hv, if_pos hv]
  by_cases hm : MayG s
  case neg =>
    rw [if_neg hm, if_neg hm]
    rw [decide_eq_false hm] at HM
    clear hm
    go_enter Tryd.func9, Tryd.ntmps9
    go_wp2_with fail
    refine (HM.out _ (HSV.out.below (HB0.out _) (Nat.le_refl _))).mono ?_
    rintro e W1 ⟨rfl, hb1⟩
    have HB1 := hide ((HB0.out _).trans (hb1.mono (HB0.out _).size))
    clear hb1
    go_wp2
    go_ret2
    exact ⟨_, rfl, Own.nil _ _, HB1.out⟩
  rw [if_pos hm, if_pos hm]
  rw [decide_eq_true hm] at HM
  obtain ⟨n, rfl⟩ : ∃ n : Nat, v = (n : Int) := ⟨v.toNat, by omega⟩
  rw [Int.toNat_natCast]
  have hpl := parts_len (v := n) (by omega) (by omega) hm
  have hn1 : 1 ≤ n := by omega
  have hn3 : n ≤ 3 := by omega
  obtain ⟨⟨k0, k1, f0, f1⟩, hok⟩ := hm
  have HHD : Hid (∀ W, Calls Tryd.prog 11 #[.int .i64 (n : Int), .int .i64 s.kind, .int .i64 s.first] W fun e w' => ∃ v', e = .returned (.tuple #[v', .int .i64 0]) ∧ Own w' W.heap.size v' (frameOf (headS n s.kind.toNat s.first.toNat)) ∧ Below W.heap.size W w') := hide (fun W => by
    have h := refHead_any (n : Int) s.kind s.first W
    unfold Headed headErr headL at h
    have hh : HeadOk s.kind s.first := ⟨k0, k1, f0, f1⟩
    rw [if_pos hv, if_pos hv, if_pos hh, if_pos hh, Int.toNat_natCast] at h
    exact h)
  have HFRM := hide (fun W h => refFrames_any n hn1 hn3 (.slice al s.recs.length cl) s.recs s.first W h hok)
  have hbl := blocks_len hn1 hn3 hok.2.1
  have hbn := blocksS_len (v := n) s.recs
  have h4 := hok.1
  have hhl := headS_len (v := n) (k := s.kind.toNat) (f := s.first.toNat) hn3 (by omega) (by omega)
  have hfh := frameOf_len6 (d := headS n s.kind.toNat s.first.toNat) (by omega)
  have hfb := framesOf_len _ hbl
  have HFO : Hid (∀ v1 v2 W, Rd W v1 (frameOf (headS n s.kind.toNat s.first.toNat)) → RdL W v2 ((blocksS n s.recs).map frameOf) → Calls Tryd.prog 27 #[v1, v2] W fun e w' => ∃ v', e = .returned v' ∧ Own w' W.heap.size v' (footS (headS n s.kind.toNat s.first.toNat) (blocksS n s.recs)) ∧ Below W.heap.size W w') := hide (fun v1 v2 W h1 h2 => by
    have h := refFooter_any v1 _ v2 _ W h1 h2 (by rw [List.length_map]; omega) (by omega) (fun x hx => by
      obtain ⟨d, hd, rfl⟩ := List.mem_map.1 hx
      have := hbl d hd
      have := frameOf_len6 (d := d) (by omega)
      omega)
    rw [offsF_frames, List.length_map] at h
    exact h)
  have HEN : Hid (∀ v1 W, Rd W v1 (footS (headS n s.kind.toNat s.first.toNat) (blocksS n s.recs)) → Calls Tryd.prog 26 #[v1] W fun e w' => ∃ v', e = .returned (.tuple #[v', .int .i64 0]) ∧ Own w' W.heap.size v' (frameOf (footS (headS n s.kind.toNat s.first.toNat) (blocksS n s.recs))) ∧ Below W.heap.size W w') := hide (fun v1 W h => by
    have h := refEncode_any v1 _ W h
    rw [frame_ok (hpl _ (by unfold partsS; simp))] at h
    exact h)
  have HJ : Hid (∀ v1 W, RdL W v1 ((blocksS n s.recs).map frameOf) → Calls Tryd.prog 28 #[v1] W fun e w' => ∃ v', e = .returned v' ∧ Own w' W.heap.size v' (framesOf (blocksS n s.recs)) ∧ Below W.heap.size W w') := hide (fun v1 W h => by
    have := refJoined_any v1 _ W h (by rw [flatten_frames]; omega)
    rw [flatten_frames] at this
    exact this)
  have HEE : Hid (encS8 n s = (frameOf (headS n s.kind.toNat s.first.toNat) ++ framesOf (blocksS n s.recs)) ++ frameOf (footS (headS n s.kind.toNat s.first.toNat) (blocksS n s.recs))) := hide (by
    unfold encS8 partsS
    rw [framesOf_cons, framesOf_app, List.append_assoc]
    congr 2
    simp [framesOf])
  have hft := hpl (footS (headS n s.kind.toNat s.first.toNat) (blocksS n s.recs)) (by unfold partsS; simp)
  have hff := frameOf_len6 hft
  rw [HEE.out]
  have hl1 : (frameOf (headS n s.kind.toNat s.first.toNat)).length ≤ 2000000 := by omega
  have hl2 : (framesOf (blocksS n s.recs)).length ≤ 2000000 := by omega
  have hl3 : (frameOf (footS (headS n s.kind.toNat s.first.toNat) (blocksS n s.recs))).length ≤ 2000000 := by omega
  clear hpl hok hbl hbn h4 hhl hfh hfb HEE hft hff hv1 hv3
  generalize footS (headS n s.kind.toNat s.first.toNat) (blocksS n s.recs) = FT at *
  generalize frameOf FT = FF at *
  generalize frameOf (headS n s.kind.toNat s.first.toNat) = FH at *
  generalize framesOf (blocksS n s.recs) = FB at *
  generalize (blocksS n s.recs).map frameOf = LB at *
  have hl12 : (FH ++ FB).length ≤ 4000000 := by rw [List.length_append]; omega
  go_enter Tryd.func9, Tryd.ntmps9
  go_wp2_with fail
  refine (HM.out _ (HSV.out.below (HB0.out _) (Nat.le_refl _))).mono ?_
  rintro e W1 ⟨rfl, hb1⟩
  have HX1 := hide ((X1.out _).below hb1 (Nat.le_refl _))
  have HB1 := hide ((HB0.out _).trans (hb1.mono (HB0.out _).size))
  clear hb1 X1 HM
  obtain ⟨q0, -⟩ := HX1.out.cell 0
  obtain ⟨q1, -⟩ := HX1.out.cell 1
  go_wp2_with fail
  refine (HHD.out _).mono ?_
  rintro e W2 ⟨v2, rfl, ho2, hb2⟩
  have HH2 := hide ho2.rd
  have HX2 := hide (HX1.out.below hb2 (Nat.le_refl _))
  have HB2 := hide (HB1.out.trans (hb2.mono HB1.out.size))
  clear ho2 hb2 q0 q1 HX1 HB1 HHD
  obtain ⟨q2, -⟩ := HX2.out.cell 2
  go_wp2_with fail
  refine (HFRM.out _ (HR.out.below HB2.out (Nat.le_refl _))).mono ?_
  rintro e W3 ⟨v3, rfl, ho3, hb3⟩
  have HL3 := hide ho3.rd
  have HH3 := hide (HH2.out.below hb3 (Nat.le_refl _))
  have HB3 := hide (HB2.out.trans (hb3.mono HB2.out.size))
  clear ho3 hb3 q2 HX2 HB2 HH2 HFRM
  go_wp2_with fail
  refine (HFO.out _ _ _ HH3.out HL3.out).mono ?_
  rintro e W4 ⟨v4, rfl, ho4, hb4⟩
  have HT4 := hide ho4.rd
  have HL4 := hide (HL3.out.below hb4 (Nat.le_refl _))
  have HH4 := hide (HH3.out.below hb4 (Nat.le_refl _))
  have HB4 := hide (HB3.out.trans (hb4.mono HB3.out.size))
  clear ho4 hb4 HL3 HH3 HB3 HFO
  go_wp2_with fail
  refine (HEN.out _ _ HT4.out).mono ?_
  rintro e W5 ⟨v5, rfl, ho5, hb5⟩
  have HF5 := hide ho5.rd
  have HL5 := hide (HL4.out.below hb5 (Nat.le_refl _))
  have HH5 := hide (HH4.out.below hb5 (Nat.le_refl _))
  have HB5 := hide (HB4.out.trans (hb5.mono HB4.out.size))
  have HS5 := hide HB5.out.size
  clear ho5 hb5 HL4 HH4 HB4 HT4 HEN
  go_wp2_with (at_builtin; refine wpList_append_rd _ rfl _ _ rfl W5.heap.size _ [] rfl (Own.nil _ _) _ FH rfl HH5.out (by simp; omega) (Nat.le_refl _) ?_)
  intro v6 W6 ho6 hb6
  have HO6 : Hid (Own W6 W5.heap.size v6 FH) := ho6
  have HC6 := hide hb6
  have HL6 := hide (HL5.out.below hb6 (Nat.le_refl _))
  have HB6 := hide (HB5.out.trans (hb6.mono HS5.out))
  have HS6 := hide hb6.size
  clear ho6 hb6 HL5 HH5
  go_wp2_with fail
  refine (HJ.out _ _ HL6.out).mono ?_
  rintro e W7 ⟨v7, rfl, ho7, hb7⟩
  have HJ7 := hide ho7.rd
  have HO7 := hide (HO6.out.below hb7 (Nat.le_refl _))
  have HC7 := hide (HC6.out.trans (hb7.mono HS6.out))
  have HB7 := hide (HB6.out.trans (hb7.mono HB6.out.size))
  have HS7 := hide (Nat.le_trans HS6.out hb7.size)
  clear ho7 hb7 HO6 HL6 HB6 HJ
  go_wp2_with (at_builtin; refine wpList_append_rd _ rfl _ _ rfl W5.heap.size _ FH rfl HO7.out _ FB rfl HJ7.out (by omega) HS7.out ?_)
  intro v8 W8 ho8 hb8
  have HO8 := hide ho8
  have HF8 : Hid (Rd W8 v5 FF) := hide (HF5.out.below (HC7.out.trans hb8) (Nat.le_refl _))
  have HB8 := hide (HB7.out.trans (hb8.mono HS5.out))
  have HS8 := hide (Nat.le_trans HS7.out hb8.size)
  clear ho8 hb8 HO7 HB7 HJ7
  go_wp2_with (at_builtin; refine wpList_append_rd _ rfl _ _ rfl W5.heap.size _ (FH ++ FB) rfl HO8.out _ FF rfl HF8.out (by omega) HS8.out ?_)
  intro v9 W9 ho9 hb9
  have HO9 := hide (ho9.mono HS5.out)
  have HB9 := hide (HB8.out.trans (hb9.mono HS5.out))
  clear ho9 hb9
  go_wp2
  go_ret2
  exact ⟨_, rfl, by rw [List.append_assoc]; exact HO9.out, HB9.out⟩

end Go.Proofs.YtddhcohjmgdajaaDoor

/- Contract of ferrymanref06: Decode. -/
namespace Go.Proofs.YtddhcohjmgdajaaDoor
open Go.RowKit

/-- What is decoded: a record and no error, or none and the error. -/
def DecodedR (w : World) (l : List UInt8) (e : Ending) (w' : World) : Prop :=
  e = .returned (.tuple #[recV (decR l).1, .int .i64 (decR l).2]) ∧ Below w.heap.size w w'

def finR (v : Nat) : Except Int (Rec × Nat) → Rec × Int
  | .error e => (zeroR, e)
  | .ok (r, found) => if found ≠ v + 2 then (zeroR, 7) else if FitsR r then (r, 0) else (zeroR, 1)

theorem decR_fin {l : List UInt8} (h : l ≠ []) (hk : (dec62 l).2 ≠ 0) (h1 : 1 ≤ (dec62 l).1) (h3 : (dec62 l).1 ≤ 3) : decR l = finR (dec62 l).1 (walkV (dec62 l).1 (l.drop (dec62 l).2) (-1) 0 zeroR) := by
  unfold decR
  rw [if_neg h, if_neg hk, if_neg (by omega)]
  rfl

/-- The boxes within Decode's loop. -/
structure DecIR (w wr : World) (r : Rec) : Prop where
  res : Br wr w.heap.size #[.int .i64 0, .int .i64 0, .int .i64 0, .int .i64 0, .int .i64 0, .int .i64 0, .int .i64 0]
  none : Br wr (w.heap.size + 1) #[.int .i64 0, .int .i64 0, .int .i64 0, .int .i64 0, .int .i64 0, .int .i64 0, .int .i64 0]
  box : Br wr (w.heap.size + 1 + 1) #[.int .i64 r.idx, .int .i64 r.proc, .int .i64 r.seq, .int .i64 r.op.code, .int .i64 r.op.a, .int .i64 r.op.b, .int .i64 r.resp]
  below : Below w.heap.size w wr

theorem belowSeven {C : Nat} {w0 w : World} (h : Below C w0 w) (R : Nat) (hR : C ≤ R) (x0 x1 x2 x3 x4 x5 x6 : Value) : Below C w0 (((((((w.setCell ⟨R, 0, none⟩ x0).setCell ⟨R, 1, none⟩ x1).setCell ⟨R, 2, none⟩ x2).setCell ⟨R, 3, none⟩ x3).setCell ⟨R, 4, none⟩ x4).setCell ⟨R, 5, none⟩ x5).setCell ⟨R, 6, none⟩ x6) :=
  ((((((h.setCell hR _).setCell hR _).setCell hR _).setCell hR _).setCell hR _).setCell hR _).setCell hR _

theorem DecodedR.fail {w w' : World} {l : List UInt8} {n : Int} (h : decR l = (zeroR, n)) (hb : Below w.heap.size w w') : DecodedR w l (.returned (.tuple #[.agg #[.int .i64 0, .int .i64 0, .int .i64 0, .int .i64 0, .int .i64 0, .int .i64 0, .int .i64 0], .int .i64 n])) w' := by
  refine ⟨?_, hb⟩
  rw [h]
  rfl

theorem DecIR.on {w wr W : World} {r : Rec} (h : DecIR w wr r) (hb : Below wr.heap.size wr W) : DecIR w W r :=
  ⟨h.res.below hb (Nat.le_refl _), h.none.below hb (Nat.le_refl _), h.box.below hb (Nat.le_refl _), h.below.trans (hb.mono h.below.size)⟩

theorem dec62_lt (l : List UInt8) : (dec62 l).1 < 4611686018427387904 := by
  rcases dec62_cases l with h | h
  · rw [h]; decide
  · exact h.1

theorem valueF_le (r : Rec) (f : Nat) (l : List UInt8) : (valueF r f l).2 ≤ l.length := by
  have h1 := dec62_le l
  have h2 := dec64_le l
  have h3 := getOp_le l
  unfold valueF
  repeat' split
  all_goals assumption

theorem cut_form (W : World) (ao : Option Addr) (cap : Nat) (l : List UInt8) (hr : Rd W (.slice ao l.length cap) l) (n : Nat) (hn : n ≤ l.length) : Rd W (.slice (if cap = n then ao else Option.map (fun x => x.add n) ao) (l.length - n) (cap - n)) (l.drop n) := by
  have hlc : l.length ≤ cap := by
    obtain ⟨a, c, e, h, -⟩ := hr
    simp only [Value.slice.injEq] at e
    omega
  have h := hr.mid n l.length cap (by omega) (by omega) (by omega) (by omega)
  rw [List.take_of_length_le (by rw [List.length_drop]; omega)] at h
  simpa [sliced] using h

/-- One field, its number read. -/
def stepV (v : Nat) (l : List UInt8) (last : Int) (found : Nat) (r : Rec) (f k : Nat) : Except Int (Rec × Nat) :=
  if k = 0 ∨ (f : Int) ≤ last then .error 3
  else if hasV v f then (if (valueF r f (l.drop k)).2 = 0 then .error 3 else walkV v (l.drop (k + (valueF r f (l.drop k)).2)) f (found + 1) (valueF r f (l.drop k)).1)
  else if f < 16 ∨ v = 3 then .error 7
  else if (dec62 (l.drop k)).2 = 0 ∨ l.length < k + (dec62 (l.drop k)).2 + (dec62 (l.drop k)).1 then .error 3
  else walkV v (l.drop (k + (dec62 (l.drop k)).2 + (dec62 (l.drop k)).1)) f found r

theorem walk_cons (v : Nat) (l : List UInt8) (last : Int) (found : Nat) (r : Rec) (hl : l ≠ []) : walkV v l last found r = stepV v l last found r (dec62 l).1 (dec62 l).2 := by
  rw [walkV, dif_neg hl]
  rfl

theorem DecIR.made (w : World) : DecIR w (((w.alloc (.cells #[.int .i64 0, .int .i64 0, .int .i64 0, .int .i64 0, .int .i64 0, .int .i64 0, .int .i64 0] 48)).alloc (.cells #[.int .i64 0, .int .i64 0, .int .i64 0, .int .i64 0, .int .i64 0, .int .i64 0, .int .i64 0] 48)).alloc (.cells #[.int .i64 0, .int .i64 0, .int .i64 0, .int .i64 0, .int .i64 0, .int .i64 0, .int .i64 0] 48)) zeroR := by
  refine ⟨?_, ?_, ?_, ?_⟩
  · exact (Below.heap_alloc _ _ _ (by simp; omega)).trans ((Below.heap_alloc _ _ _ (by simp)).trans (heap_alloc_new w _))
  · exact (Below.heap_alloc _ _ _ (by simp)).trans (two_new w _ _)
  · have h := two_new (w.alloc (.cells #[.int .i64 0, .int .i64 0, .int .i64 0, .int .i64 0, .int .i64 0, .int .i64 0, .int .i64 0] 48)) (.cells #[.int .i64 0, .int .i64 0, .int .i64 0, .int .i64 0, .int .i64 0, .int .i64 0, .int .i64 0] 48) (.cells #[.int .i64 0, .int .i64 0, .int .i64 0, .int .i64 0, .int .i64 0, .int .i64 0, .int .i64 0] 48)
    have e : ∀ X, (w.alloc X).heap.size = w.heap.size + 1 := fun X => by simp
    rw [e] at h
    exact h
  · exact Below.allocs (Below.allocs (Below.allocs (Below.refl _ _) _) _) _

/-- A cut of bytes answers the same in every world. -/
theorem run_cut_all (W : World) (ao : Option Addr) (l : List UInt8) (cap : Nat) (_hlc : l.length ≤ cap) (i : Int) (n : Nat) (hi : i = (n : Int)) (hn : n ≤ l.length) :
    (Instr.sliceAt 26 (.slice ao l.length cap) (some (.int .i64 i)) none none).run Tryd.prog W = .ok (sliced ao n l.length cap 1) W := by
  subst hi
  rw [run_sliceAt_slice W 26 _ _ _ _ under_bytes, run_slice_l W 26 ao l.length cap under_bytes .i64 (n : Int) (by omega) (by omega), elem_bytes, size_u8]
  rfl

theorem heap_seven (W : World) (b : Nat) (c0 c1 c2 c3 c4 c5 c6 : Value) (h : Br W b #[c0, c1, c2, c3, c4, c5, c6]) (x0 x1 x2 x3 x4 x5 x6 : Value) :
    Br (((((((W.setCell ⟨b, 0, none⟩ x0).setCell ⟨b, 1, none⟩ x1).setCell ⟨b, 2, none⟩ x2).setCell ⟨b, 3, none⟩ x3).setCell ⟨b, 4, none⟩ x4).setCell ⟨b, 5, none⟩ x5).setCell ⟨b, 6, none⟩ x6) b #[x0, x1, x2, x3, x4, x5, x6] := by
  have h0 := heap_setCell_same W b 0 _ _ x0 h
  have h1 := heap_setCell_same _ b 1 _ _ x1 h0
  have h2 := heap_setCell_same _ b 2 _ _ x2 h1
  have h3 := heap_setCell_same _ b 3 _ _ x3 h2
  have h4 := heap_setCell_same _ b 4 _ _ x4 h3
  have h5 := heap_setCell_same _ b 5 _ _ x5 h4
  have h6 := heap_setCell_same _ b 6 _ _ x6 h5
  unfold Br
  simpa using h6

theorem heap_seven_else (W : World) (b c : Nat) (hbc : c ≠ b) (x0 x1 x2 x3 x4 x5 x6 : Value) :
    (((((((W.setCell ⟨b, 0, none⟩ x0).setCell ⟨b, 1, none⟩ x1).setCell ⟨b, 2, none⟩ x2).setCell ⟨b, 3, none⟩ x3).setCell ⟨b, 4, none⟩ x4).setCell ⟨b, 5, none⟩ x5).setCell ⟨b, 6, none⟩ x6).heap[c]? = W.heap[c]? := by
  rw [Below.heap_setCell _ _ _ _ hbc, Below.heap_setCell _ _ _ _ hbc, Below.heap_setCell _ _ _ _ hbc, Below.heap_setCell _ _ _ _ hbc, Below.heap_setCell _ _ _ _ hbc, Below.heap_setCell _ _ _ _ hbc, Below.heap_setCell _ _ _ _ hbc]

theorem decIR_set {w W : World} {r X : Rec} (h : DecIR w W r) : DecIR w (((((((W.setCell ⟨w.heap.size + 1 + 1, 0, none⟩ (.int .i64 X.idx)).setCell ⟨w.heap.size + 1 + 1, 1, none⟩ (.int .i64 X.proc)).setCell ⟨w.heap.size + 1 + 1, 2, none⟩ (.int .i64 X.seq)).setCell ⟨w.heap.size + 1 + 1, 3, none⟩ (.int .i64 X.op.code)).setCell ⟨w.heap.size + 1 + 1, 4, none⟩ (.int .i64 X.op.a)).setCell ⟨w.heap.size + 1 + 1, 5, none⟩ (.int .i64 X.op.b)).setCell ⟨w.heap.size + 1 + 1, 6, none⟩ (.int .i64 X.resp)) X := by
  refine ⟨?_, ?_, heap_seven W _ _ _ _ _ _ _ _ h.box _ _ _ _ _ _ _, belowSeven h.below _ (by omega) _ _ _ _ _ _ _⟩
  · exact (heap_seven_else W (w.heap.size + 1 + 1) w.heap.size (by omega) _ _ _ _ _ _ _).trans h.res
  · exact (heap_seven_else W (w.heap.size + 1 + 1) (w.heap.size + 1) (by omega) _ _ _ _ _ _ _).trans h.none

end Go.Proofs.YtddhcohjmgdajaaDoor

/- Contract of ferrymanref07: one. -/
namespace Go.Proofs.YtddhcohjmgdajaaDoor
open Go.RowKit

/-- What bytes begin with: a record and how many bytes. -/
def OneR (w : World) (l : List Rec) (b : List UInt8) (e : Ending) (w' : World) : Prop :=
  e = .returned (.tuple #[recV (oneL l b).1, .int .i64 ((oneL l b).2 : Nat)]) ∧ Below w.heap.size w w'

theorem belowSevenB {C : Nat} {w0 w : World} (h : Below C w0 w) (R : Nat) (hR : C ≤ R) (x0 x1 x2 x3 x4 x5 x6 : Value) : Below C w0 (((((((w.setCell ⟨R, 0, none⟩ x0).setCell ⟨R, 1, none⟩ x1).setCell ⟨R, 2, none⟩ x2).setCell ⟨R, 3, none⟩ x3).setCell ⟨R, 4, none⟩ x4).setCell ⟨R, 5, none⟩ x5).setCell ⟨R, 6, none⟩ x6) :=
  ((((((h.setCell hR _).setCell hR _).setCell hR _).setCell hR _).setCell hR _).setCell hR _).setCell hR _

end Go.Proofs.YtddhcohjmgdajaaDoor

/- Contract of ferrymanref07: Decode. -/
namespace Go.Proofs.YtddhcohjmgdajaaDoor
open Go.RowKit

/-- What is decoded: the records, or none and ErrForm. -/
def DecodedB (w : World) (b : List UInt8) (e : Ending) (w' : World) : Prop :=
  ∃ (vl : Value) (l : List Rec) (n : Int), e = .returned (.tuple #[vl, .int .i64 n]) ∧ RdR w' vl l ∧ DecB b l n ∧ Below w.heap.size w w'

theorem DecodedB.none {w w' : World} {b : List UInt8} (h : ∀ l', FitsB l' → encB l' ≠ b) (hb : Below w.heap.size w w') : DecodedB w b (.returned (.tuple #[.slice none 0 0, .int .i64 3])) w' :=
  ⟨_, [], 3, rfl, RdR.nil _, .inr ⟨rfl, rfl, h⟩, hb⟩

theorem fitsB_head {l : List Rec} (h : FitsB l) : FitsR (l.headD zeroR) := by
  obtain ⟨h1, _, hf, _⟩ := h
  match l, h1 with
  | r :: u, _ => exact hf r (by simp)

/-- How a block's bytes begin. -/
theorem encB_begins {l : List Rec} (h : FitsB l) {b : List UInt8} (hb : encB l = b) :
    ((dec62 b).1 : Int) = (l.headD zeroR).idx ∧ (dec62 b).2 ≠ 0 ∧ (dec62 (b.drop (dec62 b).2)).1 = l.length ∧ (dec62 (b.drop (dec62 b).2)).2 ≠ 0 ∧ b.drop ((dec62 b).2 + (dec62 (b.drop (dec62 b).2)).2) = encRs [] l := by
  obtain ⟨_, i0, i1, _⟩ := fitsB_head h
  have h2 := h.2.1
  subst hb
  have d1 : dec62 (encB l) = ((l.headD zeroR).idx.toNat, (Lib.uvarint (l.headD zeroR).idx.toNat).length) := dec62_uvarint _ _ (by omega)
  have e1 : (encB l).drop (Lib.uvarint (l.headD zeroR).idx.toNat).length = Lib.uvarint l.length ++ encRs [] l := by
    unfold encB
    rw [List.drop_left]
  have d2 := dec62_uvarint l.length (encRs [] l) (by omega)
  rw [d1]
  simp only
  rw [e1, d2]
  refine ⟨by omega, uv_ne _, rfl, uv_ne _, ?_⟩
  rw [← List.drop_drop, e1, List.drop_left]

theorem one_ok {pre : List Rec} {b : List UInt8} (h : (oneL pre b).2 ≠ 0) : RecOk (oneL pre b).1 := by
  have h0 : dec62 b = dec62 b := rfl
  have hz : ∀ l : List UInt8, I64 (zag (dec64 l).1) := fun l => zag_i64 (by
    rcases dec64_cases l with e | e
    · rw [e]; decide
    · exact e.1)
  have hd : (dec62 b).1 < 4611686018427387904 := by
    rcases dec62_cases b with e | e
    · rw [e]; decide
    · exact e.1
  have hw : ∀ n : Int, I64 (IntKind.i64.wrap n) := fun n => by
    unfold I64
    rw [IntKind.wrap_i64]
    omega
  unfold oneL at h ⊢
  simp only at h ⊢
  by_cases hb : (dec62 b).2 = 0 ∨ (dec64 (b.drop (dec62 b).2)).2 = 0 ∨ (getOpL (b.drop ((dec62 b).2 + (dec64 (b.drop (dec62 b).2)).2))).2 = 0 ∨ (dec64 (b.drop ((dec62 b).2 + (dec64 (b.drop (dec62 b).2)).2 + (getOpL (b.drop ((dec62 b).2 + (dec64 (b.drop (dec62 b).2)).2))).2))).2 = 0
  · rw [if_pos hb] at h
    exact absurd rfl h
  · rw [if_neg hb]
    have hk : (getOpL (b.drop ((dec62 b).2 + (dec64 (b.drop (dec62 b).2)).2))).2 ≠ 0 := fun e => hb (.inr (.inr (.inl e)))
    have hf := (getOp_sound hk).1
    have hi := fits_i64 hf
    have hproc : I64 ((dec62 b).1 : Int) := ⟨by omega, by omega⟩
    have hcode : I64 (getOpL (b.drop ((dec62 b).2 + (dec64 (b.drop (dec62 b).2)).2))).1.code := by
      obtain ⟨hc0, hc1, _⟩ := hf
      generalize (getOpL (b.drop ((dec62 b).2 + (dec64 (b.drop (dec62 b).2)).2))).1.code = c at *
      exact ⟨by omega, by omega⟩
    have hzero : I64 0 := ⟨by decide, by decide⟩
    have hsq := hw (lastSeq pre (dec62 b).1 + zag (dec64 (b.drop (dec62 b).2)).1)
    have hrs := hz (b.drop ((dec62 b).2 + (dec64 (b.drop (dec62 b).2)).2 + (getOpL (b.drop ((dec62 b).2 + (dec64 (b.drop (dec62 b).2)).2))).2))
    have hia := hi.1
    have hib := hi.2
    clear h hb hk hf hi hz hw hd h0
    generalize IntKind.i64.wrap (lastSeq pre (dec62 b).1 + zag (dec64 (b.drop (dec62 b).2)).1) = sq at *
    generalize zag (dec64 (b.drop ((dec62 b).2 + (dec64 (b.drop (dec62 b).2)).2 + (getOpL (b.drop ((dec62 b).2 + (dec64 (b.drop (dec62 b).2)).2))).2))).1 = x at *
    generalize (getOpL (b.drop ((dec62 b).2 + (dec64 (b.drop (dec62 b).2)).2))).1 = op at *
    exact ⟨hzero, hproc, hsq, ⟨hcode, hia, hib⟩, hrs⟩

theorem one_le (pre : List Rec) (b : List UInt8) : (oneL pre b).2 ≤ b.length := by
  have b1 := dec62_le b
  have b2 := dec64_le (b.drop (dec62 b).2)
  have b3 := getOp_le (b.drop ((dec62 b).2 + (dec64 (b.drop (dec62 b).2)).2))
  have b4 := dec64_le (b.drop ((dec62 b).2 + (dec64 (b.drop (dec62 b).2)).2 + (getOpL (b.drop ((dec62 b).2 + (dec64 (b.drop (dec62 b).2)).2))).2))
  simp only [List.length_drop] at b2 b3 b4
  unfold oneL
  simp only
  split
  · exact Nat.zero_le _
  · show (dec62 b).2 + _ + _ + _ ≤ _
    omega

/-- Where the reading stands, if the bytes are those of a block. -/
def readsB (b : List UInt8) (l : List Rec) (A : Nat) : Prop := ∀ l', FitsB l' → encB l' = b → l = l'.take l.length ∧ b.drop A = encRs (l'.take l.length) (l'.drop l.length)

theorem readsB_next {b : List UInt8} {l : List Rec} {A : Nat} (h : readsB b l A) {l' : List Rec} (hf : FitsB l') (hb : encB l' = b) (hl : l.length < l'.length) :
    oneL l (b.drop A) = ({ l'.getD l.length zeroR with idx := 0 }, (encOne l (l'.getD l.length zeroR)).length) ∧ (oneL l (b.drop A)).2 ≠ 0 ∧ (l'.getD l.length zeroR).idx = (l'.headD zeroR).idx + l.length ∧ b.drop (A + (oneL l (b.drop A)).2) = encRs (l'.take (l.length + 1)) (l'.drop (l.length + 1)) := by
  obtain ⟨h1, h2⟩ := h l' hf hb
  have hfl : ∀ r ∈ l, FitsR r := fun r hr => by
    rw [h1] at hr
    exact hf.2.2.1 r (List.mem_of_mem_take hr)
  have hfr : FitsR (l'.getD l.length zeroR) := hf.2.2.1 _ (by simp [List.getD, hl])
  have ed : l'.drop l.length = l'.getD l.length zeroR :: l'.drop (l.length + 1) := by
    rw [List.drop_eq_getElem_cons hl]
    simp [List.getD, hl]
  rw [← h1, ed, encRs] at h2
  have ho := one_enc hfl hfr (encRs (l ++ [l'.getD l.length zeroR]) (l'.drop (l.length + 1)))
  rw [← h2] at ho
  have hne : (encOne l (l'.getD l.length zeroR)).length ≠ 0 := by
    unfold encOne
    have := uv_ne (l'.getD l.length zeroR).proc.toNat
    rw [List.length_append]
    omega
  refine ⟨ho, by rw [ho]; exact hne, chain_get l' _ _ hf.2.2.2 hl, ?_⟩
  rw [ho]
  simp only
  rw [← List.drop_drop, h2, List.drop_left, takeR_snoc hl, ← h1]

theorem readsB_step {b : List UInt8} {l : List Rec} {A : Nat} (h : readsB b l A) (hlen : ∀ l', FitsB l' → encB l' = b → l.length < l'.length) :
    readsB b (l ++ [{ (oneL l (b.drop A)).1 with idx := ((dec62 b).1 : Int) + l.length }]) (A + (oneL l (b.drop A)).2) := by
  intro l' hf hb
  have hl := hlen l' hf hb
  obtain ⟨h1, h2, h3, h4⟩ := readsB_next h hf hb hl
  have hidx := (encB_begins hf hb).1
  have e : (l ++ [{ (oneL l (b.drop A)).1 with idx := ((dec62 b).1 : Int) + l.length }]).length = l.length + 1 := by simp
  rw [e]
  refine ⟨?_, h4⟩
  rw [takeR_snoc hl, ← (h l' hf hb).1]
  congr 2
  rw [h1, hidx, ← h3]

end Go.Proofs.YtddhcohjmgdajaaDoor

/- Of segments: what Decode and Recover answer; cuts; frames that are whole. -/
namespace Go.Proofs.YtddhcohjmgdajaaDoor
open Go.RowKit

/-- A cut of bytes: the value, and what it reads as, in the first world. -/
theorem cut_at (w : World) (ao : Option Addr) (l : List UInt8) (cap : Nat) (hr : Rd w (.slice ao l.length cap) l) (n : Nat) (hn : n ≤ l.length) :
    ∃ a c, Rd w (.slice a (l.drop n).length c) (l.drop n) ∧ ∀ i : Int, i = (n : Int) → ∀ W, (Instr.sliceAt 26 (.slice ao l.length cap) (some (.int .i64 i)) none none).run Tryd.prog W = .ok (.slice a (l.drop n).length c) W := by
  have h := cut_form w ao cap l hr n hn
  have hlc : l.length ≤ cap := by
    obtain ⟨a, c, e, h, -⟩ := hr
    simp only [Value.slice.injEq] at e
    omega
  refine ⟨_, _, by rw [List.length_drop]; exact h, fun i hi W => ?_⟩
  rw [run_cut_all W ao l cap hlc i n hi hn, List.length_drop]
  simp [sliced]

theorem readH_none {d : List UInt8} (h : d = [] ∨ d.getD 0 0 ≠ 108) : readH d = .error 3 := by
  unfold readH
  rw [if_pos h]

theorem readH_some {d : List UInt8} (h : ¬ (d = [] ∨ d.getD 0 0 ≠ 108)) {v i k j f m : Nat} (h1 : dec62 (d.drop 1) = (v, i)) (h2 : dec62 (d.drop (1 + i)) = (k, j)) (h3 : dec62 (d.drop (1 + i + j)) = (f, m)) :
    readH d = if i = 0 ∨ j = 0 ∨ m = 0 ∨ 1 + i + j + m ≠ d.length then .error 3 else if v < 1 ∨ 3 < v then .error 6 else if 6 ≤ k then .error 1 else .ok (v, k, f) := by
  unfold readH
  rw [if_neg h, h1]
  simp only
  rw [h2]
  simp only
  rw [h3]

/-- A cut of bytes at both ends. -/
theorem cut2_at (w : World) (ao : Option Addr) (l : List UInt8) (cap : Nat) (hr : Rd w (.slice ao l.length cap) l) (i n : Nat) (hn : i + n ≤ l.length) :
    ∃ a c, Rd w (.slice a ((l.drop i).take n).length c) ((l.drop i).take n) ∧ ∀ I J : Int, I = (i : Int) → J = ((i + n : Nat) : Int) → ∀ W, (Instr.sliceAt 26 (.slice ao l.length cap) (some (.int .i64 I)) (some (.int .i64 J)) none).run Tryd.prog W = .ok (.slice a ((l.drop i).take n).length c) W := by
  have hlc : l.length ≤ cap := by
    obtain ⟨a, c, e, h, -⟩ := hr
    simp only [Value.slice.injEq] at e
    omega
  have h := hr.mid i (i + n) cap (by omega) (by omega) (by omega) (Nat.le_refl _)
  have e1 : i + n - i = n := by omega
  have e2 : ((l.drop i).take n).length = n := by rw [List.length_take, List.length_drop]; omega
  rw [e1] at h
  unfold sliced at h
  rw [e1] at h
  refine ⟨_, _, by rw [e2]; exact h, fun I J hI hJ W => ?_⟩
  subst hI hJ
  rw [run_sliceAt_slice W 26 _ _ _ _ under_bytes, run_slice_lh W 26 ao l.length cap under_bytes .i64 .i64 (i : Int) ((i + n : Nat) : Int) (by omega) (by omega) (by omega), elem_bytes, size_u8]
  simp only [Int.toNat_natCast, e2]
  unfold sliced
  rw [e1]
  rfl

theorem recOk_of_fits {r : Rec} (h : FitsR r) : RecOk r := by
  have hresp := fitsR_resp h
  obtain ⟨g1, g2, g3, g4, g5, g6, g7, _, _⟩ := h
  have hab := fits_i64 g1
  exact ⟨⟨by omega, by omega⟩, ⟨by omega, by omega⟩, ⟨by omega, by omega⟩, ⟨⟨by have := g1.1; omega, by have := g1.2.1; omega⟩, hab.1, hab.2⟩, hresp⟩

theorem recOk_dec {l : List UInt8} (h : (decR l).2 = 0) : RecOk (decR l).1 := by
  rcases decR_codes l with ⟨_, hf⟩ | ⟨hn, _⟩
  · exact recOk_of_fits hf
  · exact absurd h hn

/-- The records, how many frames they are of, and the error that ends them. -/
def walkL (L : List (List UInt8)) (v k f : Nat) : Seg × Nat × Int := (⟨k, f, (walkB v f L.tail [] 16).1⟩, 1 + (walkB v f L.tail [] 16).2.1, (walkB v f L.tail [] 16).2.2)

theorem OwnR.set {w : World} {C : Nat} {v : Value} {l : List Rec} (h : OwnR w C v l) (R i : Nat) (hR : R < C) (x : Value) : OwnR (w.setCell ⟨R, i, none⟩ x) C v l := ownsRow_setCell_below h hR x

theorem OwnR.drew {w : World} {B : Nat} {v : Value} {l : List Rec} (h : OwnR w B v l) : OwnR w.drew B v l := h

theorem OwnR.under {w w' : World} {B B' : Nat} {v : Value} {l : List Rec} (h : OwnR w B v l) (hb : Below B' w w') (hB : w.heap.size ≤ B') : OwnR w' B v l := h.below hb hB

theorem belowThree {C : Nat} {w0 w : World} (h : Below C w0 w) (R : Nat) (hR : C ≤ R) (x0 x1 x2 : Value) : Below C w0 (((w.setCell ⟨R, 0, none⟩ x0).setCell ⟨R, 1, none⟩ x1).setCell ⟨R, 2, none⟩ x2) :=
  ((h.setCell hR _).setCell hR _).setCell hR _

theorem walkB_step (v : Nat) (first : Int) (d : List UInt8) (ds : List (List UInt8)) (acc : List Rec) (last : Nat) :
    walkB v first (d :: ds) acc last = match readBk v d (first + acc.length) with
      | none => (acc, 0, 3)
      | some r => if last < 16 then (acc, 0, 3) else if 4096 < acc.length + r.length then (acc, 0, 5)
          else ((walkB v first ds (acc ++ r) r.length).1, (walkB v first ds (acc ++ r) r.length).2.1 + 1, (walkB v first ds (acc ++ r) r.length).2.2) := by
  rw [walkB]
  cases readBk v d (first + acc.length) <;> rfl

theorem drop_one {L : List (List UInt8)} {j : Nat} (hj : j < L.length) : L.drop j = L.getD j [] :: L.drop (j + 1) := by
  rw [List.drop_eq_getElem_cons hj]
  simp [List.getD, hj]

/-- What Decode answers. -/
def DecodedG (w : World) (b : List UInt8) (e : Ending) (w' : World) : Prop :=
  ∃ vl, e = .returned (.tuple #[.agg #[.int .i64 (decS8 b).1.kind, .int .i64 (decS8 b).1.first, vl], .int .i64 (decS8 b).2]) ∧ RdR w' vl (decS8 b).1.recs ∧ Below w.heap.size w w'

theorem wholeF_some : ∀ (n : Nat) (b : List UInt8), b.length ≤ n → framesOf (wholeF b).1 = b.take (wholeF b).2.1 ∧ ∀ x ∈ (wholeF b).1, x.length ≤ 1048576
  | 0, b, hn => by
    have e : b = [] := List.eq_nil_of_length_eq_zero (by omega)
    subst e
    rw [wholeF_nil]
    exact ⟨rfl, by simp⟩
  | n + 1, b, hn => by
    by_cases e : b = []
    · subst e
      rw [wholeF_nil]
      exact ⟨rfl, by simp⟩
    by_cases hd : (decF b).2.2 = 0
    · obtain ⟨d1, d2, d3, d4⟩ := decF_ok hd
      have h5 := decF_five hd
      rw [wholeF_step e hd]
      obtain ⟨i1, i2⟩ := wholeF_some n (b.drop (decF b).2.1) (by rw [List.length_drop]; omega)
      refine ⟨?_, fun x hx => ?_⟩
      · show framesOf ((decF b).1 :: (wholeF (b.drop (decF b).2.1)).1) = b.take ((decF b).2.1 + (wholeF (b.drop (decF b).2.1)).2.1)
        rw [framesOf_cons, i1, ← d4, List.take_add]
      · rcases List.mem_cons.1 hx with hx | hx
        · rw [hx]; exact d1
        · exact i2 x hx
    · rw [wholeF_stop e hd]
      exact ⟨rfl, by simp⟩

theorem framesOf_mem : ∀ (L : List (List UInt8)) (x : List UInt8), x ∈ L → x.length + 5 ≤ (framesOf L).length
  | y :: L, x, hx => by
    rw [framesOf_cons, List.length_append]
    rcases List.mem_cons.1 hx with h | h
    · rw [h, frameOf_length]
      have := Lib.uvarint_pos y.length
      omega
    · have := framesOf_mem L x h
      omega

theorem framesOf_many : ∀ (L : List (List UInt8)), 5 * L.length ≤ (framesOf L).length
  | [] => by simp
  | y :: L => by
    have := framesOf_many L
    have := frameOf_pos y
    rw [framesOf_cons, List.length_append, List.length_cons]
    omega

/-- The frames of bytes are not longer than these, nor more. -/
theorem wholeF_bounds (b : List UInt8) : (∀ x ∈ (wholeF b).1, x.length ≤ 1048576 ∧ x.length ≤ b.length) ∧ 5 * (wholeF b).1.length ≤ b.length := by
  obtain ⟨h1, h2⟩ := wholeF_some _ b (Nat.le_refl _)
  have h3 : (framesOf (wholeF b).1).length ≤ b.length := by
    rw [h1, List.length_take]
    omega
  refine ⟨fun x hx => ⟨h2 x hx, ?_⟩, ?_⟩
  · have := framesOf_mem _ x hx
    omega
  · have := framesOf_many (wholeF b).1
    omega

theorem decS8_err {b : List UInt8} (h : (wholeF b).2.2 ≠ 0) : decS8 b = (zeroG, ((wholeF b).2.2 : Int)) := by
  unfold decS8
  rw [if_pos h]

theorem decS8_ok {b : List UInt8} (h : (wholeF b).2.2 = 0) : decS8 b = decL8 (wholeF b).1 := by
  unfold decS8
  rw [if_neg (fun e => e h)]

/-- A list without its last one. -/
theorem tail_init {L : List (List UInt8)} (h : 2 ≤ L.length) : (L.take (L.length - 1)).headD [] = L.headD [] ∧ (L.take (L.length - 1)).tail = L.tail.dropLast ∧ L.getLastD [] = L.getD (L.length - 1) [] ∧ L.headD [] = (L.take (L.length - 1)).getD 0 [] := by
  match L, h with
  | x :: y :: t, _ =>
    refine ⟨rfl, ?_, ?_, rfl⟩
    · show ((x :: y :: t).take (t.length + 1)).tail = (y :: t).dropLast
      rw [List.take_succ_cons, List.tail_cons, List.dropLast_eq_take, List.length_cons]
      rfl
    · rw [List.getLastD_eq_getLast?, List.getLast?_eq_getElem?]
      simp [List.getD]

theorem DecodedG.fail {w w' : World} {b : List UInt8} {n : Int} (h : decS8 b = (zeroG, n)) (hb : Below w.heap.size w w') : DecodedG w b (.returned (.tuple #[.agg #[.int .i64 0, .int .i64 0, .slice none 0 0], .int .i64 n])) w' := by
  refine ⟨.slice none 0 0, ?_, ?_, hb⟩
  · rw [h]
    rfl
  · rw [h]
    exact RdR.nil _

/-- What data, frame by frame, are, once the head is read. -/
theorem decL8_walk {L : List (List UInt8)} (h2 : 2 ≤ L.length) : decL8 L = match readH ((L.take (L.length - 1)).headD []) with
    | .error e => (zeroG, e)
    | .ok (v, k, f) => if (walkL (L.take (L.length - 1)) v k f).2.2 ≠ 0 then (zeroG, (walkL (L.take (L.length - 1)) v k f).2.2)
      else if footS ((L.take (L.length - 1)).headD []) (L.take (L.length - 1)).tail = L.getD (L.length - 1) [] then ((walkL (L.take (L.length - 1)) v k f).1, 0) else (zeroG, 16) := by
  obtain ⟨e1, e2, e3, _⟩ := tail_init h2
  unfold decL8 walkL
  rw [if_neg (by omega), e1, e2, e3]
  cases readH (L.headD []) <;> rfl

/-- A cut of slices of bytes: the value, and what it reads as, in the first world. -/
theorem cutL_at (w : World) (ao : Option Addr) (L : List (List UInt8)) (m cap : Nat) (hm : m = L.length) (hr : RdL w (.slice ao m cap) L) (n : Nat) (hn : n ≤ L.length) :
    ∃ a c, RdL w (.slice a (L.drop n).length c) (L.drop n) ∧ ∀ i : Int, i = (n : Int) → ∀ W, (Instr.sliceAt 49 (.slice ao m cap) (some (.int .i64 i)) none none).run Tryd.prog W = .ok (.slice a (L.drop n).length c) W := by
  subst hm
  have hlc : L.length ≤ cap := by
    obtain ⟨a, c, e, h, -⟩ := hr
    simp only [Value.slice.injEq] at e
    omega
  have h := hr.mid n L.length cap hn (Nat.le_refl _) hlc (Nat.le_refl _)
  rw [List.take_of_length_le (by rw [List.length_drop]; omega)] at h
  unfold sliced at h
  refine ⟨_, _, by rw [List.length_drop]; exact h, fun i hi W => ?_⟩
  subst hi
  rw [run_sliceAt_slice W 49 _ _ _ _ under_rows, run_slice_l W 49 ao L.length cap under_rows .i64 (n : Int) (by omega) (by omega), elem_rows, size_bytes, List.length_drop]
  rfl

theorem cutL_front (w : World) (ao : Option Addr) (L : List (List UInt8)) (m cap : Nat) (hm : m = L.length) (hr : RdL w (.slice ao m cap) L) (n : Nat) (hn : n ≤ L.length) :
    RdL w (.slice ao n cap) (L.take n) ∧ ∀ i : Int, i = (n : Int) → ∀ W, (Instr.sliceAt 49 (.slice ao m cap) none (some (.int .i64 i)) none).run Tryd.prog W = .ok (.slice ao n cap) W := by
  subst hm
  have hlc : L.length ≤ cap := by
    obtain ⟨a, c, e, h, -⟩ := hr
    simp only [Value.slice.injEq] at e
    omega
  refine ⟨hr.front n hn, fun i hi W => ?_⟩
  subst hi
  rw [run_sliceAt_slice W 49 _ _ _ _ under_rows, run_slice_h W 49 ao L.length cap under_rows .i64 (n : Int) (by omega) (by omega), elem_rows, size_bytes]
  show Result.ok (sliced ao 0 n cap 1) W = _
  unfold sliced
  have e : (if cap = 0 then ao else ao.map (·.add (0 * 1))) = ao := by
    split
    · rfl
    · cases ao <;> simp [Addr.add]
  rw [e, Nat.sub_zero, Nat.sub_zero]

theorem readH_ne {d : List UInt8} {x : Int} (h : readH d = .error x) : x ≠ 0 := by
  intro hx
  rw [hx] at h
  unfold readH at h
  simp only at h
  repeat' split at h
  all_goals simp at h

theorem readBk_few {v : Nat} {d : List UInt8} {next : Int} {l : List Rec} (h : readBk v d next = some l) : 1 ≤ l.length ∧ l.length ≤ 16 ∧ ∀ r ∈ l, FitsR r := by
  obtain ⟨⟨h1, h2⟩, h3, _⟩ := readBk_is h
  exact ⟨h1, h2, h3.2.1⟩

theorem walkB_few (v : Nat) (first : Int) : ∀ (B : List (List UInt8)) (acc : List Rec) (last : Nat), acc.length ≤ 4096 → (walkB v first B acc last).2.2 = 0 → B.length + acc.length ≤ 4096
  | [], acc, last, ha, _ => by rw [List.length_nil]; omega
  | d :: ds, acc, last, ha, h => by
    rw [walkB_step] at h
    cases hrd : readBk v d (first + acc.length) with
    | none => rw [hrd] at h; simp at h
    | some r =>
      rw [hrd] at h
      simp only at h
      split at h
      · simp at h
      split at h
      · simp at h
      have hf := readBk_few hrd
      have ih := walkB_few v first ds (acc ++ r) r.length (by rw [List.length_append]; omega) h
      rw [List.length_append] at ih
      rw [List.length_cons]
      omega

/-- What Recover answers. -/
def RecoveredG (w : World) (b : List UInt8) (e : Ending) (w' : World) : Prop :=
  ∃ vl, e = .returned (.tuple #[.agg #[.int .i64 (recS8 b).1.kind, .int .i64 (recS8 b).1.first, vl], .int .i64 ((recS8 b).2.1 : Nat), .bool (recS8 b).2.2]) ∧ RdR w' vl (recS8 b).1.recs ∧ Below w.heap.size w w'

theorem RecoveredG.fail {w w' : World} {b : List UInt8} (h : recS8 b = (zeroG, 0, false)) (hb : Below w.heap.size w w') : RecoveredG w b (.returned (.tuple #[.agg #[.int .i64 0, .int .i64 0, .slice none 0 0], .int .i64 0, .bool false])) w' := by
  refine ⟨.slice none 0 0, ?_, ?_, hb⟩
  · rw [h]
    rfl
  · rw [h]
    exact RdR.nil _

theorem walkB_count (v : Nat) (first : Int) : ∀ (B : List (List UInt8)) (acc : List Rec) (last : Nat), (walkB v first B acc last).2.1 ≤ B.length
  | [], acc, last => by rw [walkB]; simp
  | d :: ds, acc, last => by
    rw [walkB_step, List.length_cons]
    cases readBk v d (first + acc.length) with
    | none => simp
    | some r =>
      simp only
      split
      · simp
      split
      · simp
      have ih := walkB_count v first ds (acc ++ r) r.length
      simp only
      omega

theorem framesOf_take (L : List (List UInt8)) (c : Nat) : (framesOf (L.take c)).length ≤ (framesOf L).length := by
  have h := flatten_take_len (L.map frameOf) c
  rw [flatten_frames, ← List.map_take, flatten_frames] at h
  exact h

theorem recS8_walk {b : List UInt8} (h : (wholeF b).1 ≠ []) : recS8 b = match readH ((wholeF b).1.headD []) with
    | .error _ => (zeroG, 0, false)
    | .ok (v, k, f) => ((walkL (wholeF b).1 v k f).1, (framesOf ((wholeF b).1.take (walkL (wholeF b).1 v k f).2.1)).length, true) := by
  unfold recS8 recL8
  rw [if_neg h]
  cases readH ((wholeF b).1.headD []) <;> rfl

theorem walkB_size (v : Nat) (first : Int) : ∀ (B : List (List UInt8)) (acc : List Rec) (last : Nat), acc.length ≤ 4096 → (walkB v first B acc last).1.length ≤ acc.length + 16 * B.length ∧ (walkB v first B acc last).1.length ≤ 4096
  | [], acc, last, ha => by rw [walkB]; simp; omega
  | d :: ds, acc, last, ha => by
    rw [walkB_step, List.length_cons]
    cases hrd : readBk v d (first + acc.length) with
    | none => simp only; omega
    | some r =>
      have hf := readBk_few hrd
      simp only
      split
      · simp only; omega
      split
      · simp only; omega
      have ih := walkB_size v first ds (acc ++ r) r.length (by rw [List.length_append]; omega)
      rw [List.length_append] at ih
      simp only
      omega
theorem decS8_find {b : List UInt8} (h : (decS8 b).2 = 0) : 0 ≤ (decS8 b).1.first ∧ (decS8 b).1.first < 4611686018427387904 ∧ (decS8 b).1.recs.length ≤ 4096 ∧ (wholeF b).2.2 = 0 ∧ 2 ≤ (wholeF b).1.length ∧ (decS8 b).1.recs.length ≤ 16 * ((wholeF b).1.length - 2) := by
  by_cases hw : (wholeF b).2.2 = 0
  case neg =>
    rw [decS8_err hw] at h
    simp only at h
    omega
  rw [decS8_ok hw] at h ⊢
  generalize (wholeF b).1 = L at *
  by_cases h2 : 2 ≤ L.length
  case neg =>
    unfold decL8 at h
    rw [if_pos (by omega)] at h
    simp at h
  rw [decL8_walk h2] at h ⊢
  cases hrd : readH ((L.take (L.length - 1)).headD []) with
  | error x =>
    rw [hrd] at h
    exact absurd h (readH_ne hrd)
  | ok t =>
    obtain ⟨v, k, f⟩ := t
    obtain ⟨_, _, _, _, hf⟩ := readH_sound hrd
    rw [hrd] at h
    simp only at h ⊢
    split at h
    · rename_i hne
      exact absurd h hne
    rename_i hz
    rw [if_neg hz]
    split at h
    · rename_i hfo
      rw [if_pos hfo]
      have hs := walkB_size v f (L.take (L.length - 1)).tail [] 16 (by simp)
      unfold walkL
      simp only
      rw [List.length_tail, List.length_take, List.length_nil] at hs
      refine ⟨by omega, by omega, hs.2, hw, h2, by omega⟩
    · simp at h

end Go.Proofs.YtddhcohjmgdajaaDoor

/- Contracts over int of slices.Clone, Index, Contains, Delete, in the words of RdI and OwnI. -/
namespace Go.Proofs.YtddhcohjmgdajaaDoor
open Go.RowKit Go.Shelf

def layM23_ren : Go.Shelf.Ren := ⟨fun | 23 => 111 | n => n, fun | 22 => 109 | 3 => 3 | 4 => 4 | 0 => 0 | n => n, fun | n => n⟩

theorem layM23 : Go.Proofs.Lays2.n23 Tryd.prog layM23_ren := {
  mixed := by kernel_rfl
  f23 := Tryd.func111.trans (congrArg some (by kernel_rfl))
  t0 := Tryd.underlying0
  a0 := Tryd.isAgg0
  z0 := Tryd.sizeOf0
  v0 := Tryd.zeroValue0
  t3 := Tryd.underlying3
  a3 := Tryd.isAgg3
  z3 := Tryd.sizeOf3
  v3 := Tryd.zeroValue3
  t4 := Tryd.underlying4
  a4 := Tryd.isAgg4
  z4 := Tryd.sizeOf4
  v4 := Tryd.zeroValue4
  t22 := Tryd.underlying109
  a22 := Tryd.isAgg109
  z22 := Tryd.sizeOf109
  v22 := Tryd.zeroValue109
  i3 := by kernel_rfl }

/-- Cells of a row, some of them written anew. -/
def layC (cur : Array Value) : Nat → List Value → Array Value
  | _, [] => cur
  | o, v :: r => layC (cur.setIfInBounds o v) (o + 1) r

theorem layC_size : ∀ (vs : List Value) (o : Nat) (cur : Array Value), (layC cur o vs).size = cur.size
  | [], _, _ => rfl
  | v :: r, o, cur => by rw [layC, layC_size r]; simp

theorem layC_get : ∀ (vs : List Value) (o : Nat) (cur : Array Value) (j : Nat), j < cur.size → (layC cur o vs)[j]? = if o ≤ j ∧ j < o + vs.length then vs[j - o]? else cur[j]?
  | [], o, cur, j, _ => by
    rw [layC, if_neg (by rw [List.length_nil]; omega)]
  | v :: r, o, cur, j, hj => by
    rw [layC, layC_get r (o + 1) _ j (by simpa using hj)]
    by_cases h : j = o
    · subst h
      rw [if_neg (by omega), if_pos (by simp)]
      simp [hj]
    · by_cases h2 : o + 1 ≤ j ∧ j < o + 1 + r.length
      · rw [if_pos h2, if_pos (by simp; omega)]
        rw [show j - o = (j - (o + 1)) + 1 by omega]
        simp
      · rw [if_neg h2, if_neg (by simp; omega)]
        simp [show ¬ o = j by omega]

theorem heap_setCells (g : Nat) (t : TypeId) : ∀ (vs : List Value) (o : Nat) (w : World) (cur : Array Value), w.heap[g]? = some (.cells cur t (0, 0)) → (w.setCells g o vs).heap[g]? = some (.cells (layC cur o vs) t (0, 0))
  | [], _, _, _, h => h
  | v :: r, o, w, cur, h => by
    rw [World.setCells, layC]
    exact heap_setCells g t r (o + 1) _ _ (heap_setCell_same w g o cur t v h)

theorem belowCells {B g : Nat} {a : World} (hg : B ≤ g) : ∀ (vs : List Value) (o : Nat) (w : World), Below B a w → Below B a (w.setCells g o vs)
  | [], _, _, h => h
  | v :: r, o, w, h => by
    rw [World.setCells]
    exact belowCells hg r (o + 1) _ (h.setCell hg v)

/-- Numbers of one's own, by their cells. -/
theorem OwnI.ofRow {w : World} {B g cap : Nat} {cur : Array Value} {l : List Int} (hB : B ≤ g) (hg : w.heap[g]? = some (.cells cur 3 (0, 0))) (hn : l.length ≤ cap) (hm : cap ≤ maxLen) (hs : cur.size = cap) (hc : ∀ j, j < l.length → cur[j]? = some (.int .i64 (l.getD j 0))) :
    OwnI w B (.slice (some ⟨g, 0, none⟩) l.length cap) l := by
  refine ⟨by rw [intCells_length, Nat.mul_one], .inr ⟨g, cap, cur, rfl, hB, hg, hn, hm, by rw [hs, Nat.mul_one], ?_⟩⟩
  apply List.ext_getElem?
  intro j
  rw [Nat.mul_one]
  by_cases hj : j < l.length
  · rw [List.getElem?_take_of_lt hj, intCells_get l j hj, Array.getElem?_toList]
    exact hc j hj
  · rw [List.getElem?_eq_none (by simp; omega), List.getElem?_eq_none (by rw [intCells_length]; omega)]

/-- The row of numbers of one's own. -/
theorem OwnI.row {w : World} {B : Nat} {v : Value} {l : List Int} (h : OwnI w B v l) : (v = .slice none 0 0 ∧ l = []) ∨ ∃ g cap cur, v = .slice (some ⟨g, 0, none⟩) l.length cap ∧ B ≤ g ∧ g < w.heap.size ∧ w.heap[g]? = some (.cells cur 3 (0, 0)) ∧ l.length ≤ cap ∧ cap ≤ maxLen ∧ cur.size = cap ∧ ∀ j, j < l.length → cur[j]? = some (.int .i64 (l.getD j 0)) := by
  rcases h.2 with ⟨h1, h2⟩ | ⟨g, cap, cur, h1, h2, h3, h4, h5, h6, h7⟩
  · exact .inl ⟨h1, List.eq_nil_of_length_eq_zero h2⟩
  · refine .inr ⟨g, cap, cur, h1, h2, (Array.getElem?_eq_some_iff.1 h3).1, h3, h4, h5, by rw [h6, Nat.mul_one], fun j hj => ?_⟩
    have e := intCells_get l j hj
    rw [← h7, Nat.mul_one, List.getElem?_take_of_lt hj, Array.getElem?_toList] at e
    exact e

theorem drewN_heap (w : World) (q : Nat) : (w.drewN q).heap = w.heap := by
  induction q generalizing w with
  | zero => rfl
  | succ n ih => exact ih _

theorem OwnI.empty {w : World} {B : Nat} {X : Obj} {cur : Array Value} {N : Nat} (hN : w.heap.size = N) (hX : X = .cells cur 3 (0, 0)) (hB : B ≤ N) (cap : Nat) (hm : cap ≤ maxLen) (hs : cur.size = cap) : OwnI (w.alloc X) B (.slice (some ⟨N, 0, none⟩) 0 cap) [] := by
  subst hN hX
  have h := World.ownsRow_made (e := 3) (size := 1) (base := B) w cur cap hB hm (by omega)
  exact h

set_option maxRecDepth 100000 in
set_option maxHeartbeats 1000000 in
/-- Clone. -/
theorem cloneN_any (v : Value) (l : List Int) (w : World) (hr : RdI w v l) (hlim : l.length ≤ 1000000) :
    Calls Tryd.prog 108 #[v] w fun e w' => ∃ v', e = .returned v' ∧ OwnI w' w.heap.size v' l ∧ Below w.heap.size w w' := by
  have HR := hide hr
  obtain ⟨ao, cap, rfl, hlc, -, hn, -⟩ := hr
  cases ao with
  | none =>
    obtain rfl : cap = 0 := hn rfl
    obtain rfl : l = [] := List.eq_nil_of_length_eq_zero (by omega)
    clear hn hlc
    have hnil : ∀ w, (binOp .eql 109 (.slice none 0 0) (.slice none 0 0)).run Tryd.prog w = .ok (.bool true) w := fun w => run_eql_slice_nil w _ _ none 0 0 Tryd.underlying109
    go_enter Tryd.func108, Tryd.ntmps108
    go_wp2
    go_ret
    exact ⟨_, rfl, OwnI.nil _ _, Below.refl _ _⟩
  | some a =>
    clear hn
    have hnil : ∀ w, (binOp .eql 109 (.slice (some a) l.length cap) (.slice none 0 0)).run Tryd.prog w = .ok (.bool false) w := fun w => run_eql_slice_nil w _ _ (some a) _ _ Tryd.underlying109
    have HB0 : Hid (∀ X, Below w.heap.size w (w.alloc X)) := fun X => (Below.refl _ _).alloc (Nat.le_refl _) X
    have HO0 : Hid (OwnI (w.alloc (.cells #[] 3)) w.heap.size (.slice (some ⟨w.heap.size, 0, none⟩) 0 0) []) := hide (OwnI.empty rfl rfl (Nat.le_refl _) 0 (Nat.zero_le _) rfl)
    go_enter Tryd.func108, Tryd.ntmps108
    go_wp2_with (at_builtin; refine wpList_append_ints _ rfl _ _ rfl w.heap.size _ [] rfl HO0.out _ l rfl (HR.out.below (HB0.out _) (Nat.le_refl _)) (by simp; omega) (by simp) ?_)
    intro v1 W1 ho1 hb1
    have HO1 := hide ho1
    have HB1 := hide ((HB0.out _).trans hb1)
    clear ho1 hb1
    go_wp2
    go_ret
    exact ⟨_, rfl, HO1.out, HB1.out⟩

/-- Where a number stands first, or -1. -/
def placeN (x : Int) (l : List Int) : Int := if x ∈ l then (l.idxOf x : Int) else -1

theorem placeN_at {x : Int} {l : List Int} {k : Nat} (hk : k < l.length) (he : l.getD k 0 = x) (hall : ∀ j, j < k → l.getD j 0 ≠ x) : placeN x l = k := by
  have hx : l[k] = x := by simpa [List.getD, hk] using he
  have hm : x ∈ l := by rw [← hx]; exact List.getElem_mem hk
  unfold placeN
  rw [if_pos hm]
  have h1 : l.idxOf x < l.length := List.idxOf_lt_length_iff.2 hm
  have h2 : l[l.idxOf x] = x := List.getElem_idxOf h1
  have h3 : l.idxOf x ≤ k := by
    rcases Nat.lt_or_ge k (l.idxOf x) with h | h
    · have := List.not_of_lt_findIdx (p := (· == x)) (xs := l) (i := k) h
      simp [hx] at this
    · exact h
  have h4 : ¬ l.idxOf x < k := fun h => hall _ h (by simp [List.getD, h1])
  omega

theorem placeN_none {x : Int} {l : List Int} (hall : ∀ j, j < l.length → l.getD j 0 ≠ x) : placeN x l = -1 := by
  unfold placeN
  rw [if_neg]
  intro hm
  obtain ⟨j, hj, he⟩ := List.getElem_of_mem hm
  exact hall j hj (by simpa [List.getD, hj] using he)

set_option maxRecDepth 100000 in
set_option maxHeartbeats 1000000 in
/-- Index. -/
theorem indexN_any (v : Value) (l : List Int) (x : Int) (w : World) (hr : RdI w v l) :
    Calls Tryd.prog 109 #[v, .int .i64 x] w fun e w' => e = .returned (.int .i64 (placeN x l)) ∧ w' = w := by
  obtain ⟨ao, cap, rfl, hlc, hcm, -, -, hao⟩ := hr
  have hml : (l.length : Int) ≤ 9223372036854775807 := by unfold maxLen at hcm; omega
  obtain ⟨P, hP⟩ : ∃ P, P = placeN x l := ⟨_, rfl⟩
  rw [← hP]
  have HP := hide hP
  have HAO := hide hao
  clear hao hP hcm hlc
  go_enter Tryd.func109, Tryd.ntmps109
  go_wp2
  go_loop [8] (fun i => ∃ k : Nat, i = .int .i64 k ∧ k ≤ l.length ∧ Hid (∀ j, j < k → l.getD j 0 ≠ x)) (fun i => l.length - (intOf i).toNat)
  case atStart => exact ⟨0, rfl, Nat.zero_le _, fun j hj => by omega⟩
  case round =>
    obtain ⟨k, rfl, hk, hall⟩ := hrel
    by_cases hlt : k < l.length
    · rcases HAO.out with h0 | ⟨g, off, rfl, hc⟩
      · rw [h0] at hlt; simp at hlt
      have hck := hc k hlt
      clear hc
      obtain ⟨y, hy⟩ : ∃ y, y = l.getD k 0 := ⟨_, rfl⟩
      rw [← hy] at hck
      have HY := hide hy
      clear hy
      by_cases hin : x = y
      · have HN : Hid (P = (k : Int)) := hide (HP.out.trans (placeN_at hlt (by rw [← HY.out, hin]) hall.out))
        subst hin
        clear HP
        go_wp2
        go_ret
        rw [HN.out]
        exact ⟨rfl, rfl⟩
      · have hne : (x == y) = false := beq_eq_false_iff_ne.2 hin
        have HN := hide hin
        clear hin
        go_wp2
        go_round
        case rel =>
          refine ⟨k + 1, by go_num, by omega, fun j hj => ?_⟩
          by_cases e : j = k
          · rw [e, ← HY.out]; exact fun h => HN.out h.symm
          · exact hall.out j (by omega)
        case measure => simp [intOf]; omega
    · have HN : Hid (P = -1) := hide (HP.out.trans (placeN_none fun j hj => hall.out j (by omega)))
      clear HP
      go_wp2
      go_ret
      rw [HN.out]
      exact ⟨rfl, rfl⟩

/-- Delete, of numbers of one's own: nothing below their row is changed. -/
theorem deleteN_any (v : Value) (l : List Int) (B : Nat) (w : World) (ho : OwnI w B v l) (i j : Nat) (hij : i < j) (hj : j ≤ l.length) (I J : Int) (hI : I = i) (hJ : J = j) :
    Calls Tryd.prog 111 #[v, .int .i64 I, .int .i64 J] w fun e w' => ∃ v', e = .returned v' ∧ OwnI w' B v' (l.take i ++ l.drop j) ∧ Below B w w' := by
  subst hI
  subst hJ
  rcases ho.row with ⟨_, h2⟩ | ⟨g, cap, cur, rfl, hB, hlt, hg, hn, hm, hs, hc⟩
  · subst h2; simp at hj; omega
  · unfold maxLen at hm
    have hH := Lib.holds_of_ints (b := g) (off := 0) (n := l.length) (zs := l) (w := w) (Nat.le_refl _) (fun k hk => by rw [Nat.zero_add, cell_of_row w g k _ _ _ hg]; exact hc k hk) (fun k hk => by rw [Nat.zero_add]; exact frozen_of_row w g k _ _ hg)
    rw [List.take_length] at hH
    refine Calls.mono (Any.slices_Delete_int layM23 g 0 cap i j l w hH hn (by omega) (by omega) hj) ?_
    rintro e w' ⟨rfl, q, hw⟩
    rw [Lib.putRow_eq_setCells _ w g 0 _ _ q hH (by simp; omega)] at hw
    subst hw
    refine ⟨_, rfl, ?_, belowCells hB _ _ _ (below_drewN (Below.refl _ _) q)⟩
    have hlen : (l.take i ++ l.drop j).length = l.length - (j - i) := by simp; omega
    rw [← hlen]
    refine OwnI.ofRow hB (heap_setCells g _ _ _ _ cur (by rw [drewN_heap]; exact hg)) (by omega) (by unfold maxLen; omega) (by rw [layC_size]; exact hs) (fun k hk => ?_)
    rw [layC_get _ _ _ _ (by omega), if_pos (by simp at hk ⊢; omega), Nat.sub_zero, List.map_append, List.getElem?_append_left (by simpa using hk)]
    exact intCells_get _ k hk

end Go.Proofs.YtddhcohjmgdajaaDoor

/- States, operations, lists of operations and of numbers that came in. -/
namespace Go.Proofs.YtddhcohjmgdajaaDoor
open Go.RowKit Go.ChangeShapes

set_option maxRecDepth 100000 in
theorem cells_int : Tryd.prog.cellsOf 3 = 1 := by kernel_rfl

set_option maxRecDepth 100000 in
theorem cells_ints : Tryd.prog.cellsOf 109 = 1 := by kernel_rfl

set_option maxRecDepth 100000 in
theorem cells_bool : Tryd.prog.cellsOf 4 = 1 := by kernel_rfl

set_option maxRecDepth 100000 in
theorem cells_op : Tryd.prog.cellsOf 46 = 3 := by kernel_rfl

set_option maxRecDepth 100000 in
theorem i64_of_wf {n : Int} (h : (Lit.int .i64 n).wf = true) : I64 n := by
  simpa [I64, Lit.wf, IntKind.min, IntKind.max, IntKind.signed, IntKind.bits] using h

section
variable {H : Type} {enc : TypeId × Value → H} {w : World} {base fuel : Nat} {held : Bool}

set_option maxRecDepth 100000 in
/-- Numbers that came in. -/
theorem open_rdI {cs : List Value} {x : DataW H × List MemPlace} (h : DataW.trod enc Tryd.prog w base (fun _ => true) held fuel 109 cs = some x) : ∃ v l, cs = [v] ∧ RdI w v l := by
  rcases open_ints Tryd.underlying109 Tryd.underlying3 (by kernel_rfl) h with ⟨hcs, _⟩ | ⟨y, l, c, zs, hcs, _, hl, hm, hz, _, hcell, hwz⟩
  · exact ⟨_, [], hcs, RdI.nil _⟩
  · exact ⟨_, _, hcs, RdI.ofRow hl hm (by simpa using hz) hcell hwz⟩

set_option maxRecDepth 100000 in
/-- The cells of an operation. -/
theorem open_op_cells {cs : List Value} {x : DataW H × List MemPlace} (h : DataW.trod enc Tryd.prog w base (fun _ => true) held fuel 46 cs = some x) :
    ∃ (o : Opn), cs = [.int .i64 o.code, .int .i64 o.a, .int .i64 o.b] ∧ OpOk o := by
  obtain ⟨xs, n, _, _, hl, hxl, hf⟩ := DataW.trod_struct Tryd.underlying46 h
  rw [cells_op] at hl
  match xs, hxl, cs, hl with
  | [y0, y1, y2], _, [c0, c1, c2], _ =>
    have g0 := hf 0 _ rfl
    have g1 := hf 1 _ rfl
    have g2 := hf 2 _ rfl
    simp [cells_int] at g0 g1 g2
    obtain ⟨k, hk, _, wk⟩ := DataW.trod_int Tryd.underlying3 g0
    obtain ⟨a, ha, _, wa⟩ := DataW.trod_int Tryd.underlying3 g1
    obtain ⟨b, hb, _, wb⟩ := DataW.trod_int Tryd.underlying3 g2
    simp only [List.cons.injEq, and_true] at hk ha hb
    subst hk ha hb
    exact ⟨⟨k, a, b⟩, rfl, i64_of_wf wk, i64_of_wf wa, i64_of_wf wb⟩

set_option maxRecDepth 100000 in
/-- An operation that came in. -/
theorem open_op {r : Reach} {b0 : Nat} {v : Value} {d : DataW H} {p : List MemPlace} (hval : Value.okWide Tryd.prog w r b0 46 v) (h : DataW.Trod enc Tryd.prog w base (fun _ => true) held 46 v d p) : ∃ o, v = opV o ∧ OpOk o := by
  obtain ⟨cs, rfl, hsz⟩ := Go.WideShapes.okWide_struct Tryd.underlying46 hval
  obtain ⟨fuel, hf⟩ := h
  obtain ⟨o, hcs, hok⟩ := open_op_cells hf
  refine ⟨o, ?_, hok⟩
  simp [Value.cells] at hcs
  exact congrArg Value.agg (Array.ext' hcs)

end

/-- The slice value v reads, in the world w, as the operations l. -/
def RdO (w : World) (v : Value) (l : List Opn) : Prop :=
  ∃ ao cap, v = .slice ao l.length cap ∧ l.length ≤ cap ∧ cap ≤ maxLen ∧ (ao = none → cap = 0) ∧ (∀ o ∈ l, OpOk o) ∧
    (l = [] ∨ ∃ b off, ao = some ⟨b, off, none⟩ ∧ ∀ j, j < l.length → w.cell? ⟨b, off + j * 3, none⟩ = some (.int .i64 (l.getD j ⟨0, 0, 0⟩).code) ∧ w.cell? ⟨b, off + j * 3 + 1, none⟩ = some (.int .i64 (l.getD j ⟨0, 0, 0⟩).a) ∧ w.cell? ⟨b, off + j * 3 + 2, none⟩ = some (.int .i64 (l.getD j ⟨0, 0, 0⟩).b))

set_option maxRecDepth 100000 in
theorem RdO.below {w w' : World} {v : Value} {l : List Opn} (h : RdO w v l) {B : Nat} (hb : Below B w w') (hB : w.heap.size ≤ B) : RdO w' v l := by
  obtain ⟨ao, cap, h1, h2, h3, hn, hw, h4⟩ := h
  refine ⟨ao, cap, h1, h2, h3, hn, hw, ?_⟩
  rcases h4 with h4 | ⟨b, off, h5, h6⟩
  · exact .inl h4
  · refine .inr ⟨b, off, h5, fun j hj => ?_⟩
    obtain ⟨c0, c1, c2⟩ := h6 j hj
    have hlt : b < w.heap.size := World.block_lt_of_cell? w ⟨b, off + j * 3, none⟩ c0
    refine ⟨?_, ?_, ?_⟩
    · rw [hb.cell (p := ⟨b, off + j * 3, none⟩) (by exact Nat.lt_of_lt_of_le hlt hB)]; exact c0
    · rw [hb.cell (p := ⟨b, off + j * 3 + 1, none⟩) (by exact Nat.lt_of_lt_of_le hlt hB)]; exact c1
    · rw [hb.cell (p := ⟨b, off + j * 3 + 2, none⟩) (by exact Nat.lt_of_lt_of_le hlt hB)]; exact c2

set_option maxRecDepth 100000 in
theorem choose_ops {m : Nat} {p : Nat → Opn → Prop} (h : ∀ i, i < m → ∃ o, p i o) : ∃ L : List Opn, L.length = m ∧ ∀ i, i < m → p i (L.getD i ⟨0, 0, 0⟩) := by
  induction m with
  | zero => exact ⟨[], rfl, fun i hi => by omega⟩
  | succ m ih =>
    obtain ⟨L, hL, hp⟩ := ih (fun i hi => h i (by omega))
    obtain ⟨o, ho⟩ := h m (by omega)
    refine ⟨L ++ [o], by simp [hL], fun i hi => ?_⟩
    by_cases e : i < m
    · have e2 : (L ++ [o]).getD i ⟨0, 0, 0⟩ = L.getD i ⟨0, 0, 0⟩ := by simp [List.getD, List.getElem?_append_left (show i < L.length by omega)]
      rw [e2]
      exact hp i e
    · have e3 : i = L.length := by omega
      subst e3
      have e2 : (L ++ [o]).getD L.length ⟨0, 0, 0⟩ = o := by simp [List.getD]
      rw [e2, hL]
      exact ho

end Go.Proofs.YtddhcohjmgdajaaDoor

