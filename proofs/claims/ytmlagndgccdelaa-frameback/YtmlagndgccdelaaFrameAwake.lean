/- awake of layer frame answers true: the chapter's examples. It only makes memory of its own. -/
import Derived.Test.YtmlagndgccdelaaFrameOwnL
namespace Go.Proofs.Ytmlagndgccdelaa
open Go.RowKit

theorem frame_nil : frameOf [] = [0, 81, 83, 125, 82] := by
  have e : Lib.uvarint 0 = [0] := Lib.uvarint_small (by decide)
  unfold frameOf headOf
  rw [List.length_nil, e]
  decide +kernel

theorem decF_80 : decF [128] = ([], 0, 2) := by
  unfold decF
  rw [if_pos (by decide)]

theorem decF_00 : decF [0, 0, 0, 0, 0] = ([], 0, 4) := by decide +kernel

theorem encF_nil : encF [] = ([0, 81, 83, 125, 82], 0) := by
  unfold encF
  rw [if_pos (by decide), frame_nil]

theorem sizeF_0 : sizeF 0 = 5 := by
  unfold sizeF
  rw [if_pos (by decide)]
  have e : Lib.uvarint 0 = [0] := Lib.uvarint_small (by decide)
  show (Lib.uvarint 0).length + 4 + 0 = 5
  rw [e]
  rfl

theorem ret_t2 {a b : Value} (h : a = b) {v : Value} : Ending.returned (.tuple #[v, a]) = .returned (.tuple #[v, b]) := by rw [h]

set_option maxRecDepth 100000 in
set_option maxHeartbeats 1000000 in
theorem awake_any (w : World) :
    Calls Try.prog 9 #[] w fun e w' => e = .returned (.bool true) ∧ Below w.heap.size w w' := by
  have HE : Hid (Calls Try.prog 10 #[.slice none 0 0] w fun e w' => ∃ v', e = .returned (.tuple #[v', .int .i64 0]) ∧ Own w' w.heap.size v' [0, 81, 83, 125, 82] ∧ Below w.heap.size w w') := by
    have := encode_any _ [] w (Rd.nil w)
    rw [encF_nil] at this
    exact this
  have HD1 : Hid (∀ w v, Rd w v [128] → Calls Try.prog 14 #[v] w fun e w' => ∃ v', e = .returned (.tuple #[v', .int .i64 0, .int .i64 2]) ∧ Below w.heap.size w w') := by
    intro w v h
    refine (decode_any _ [128] w h).mono ?_
    rintro e w' ⟨v', rfl, _, hb⟩
    rw [decF_80]
    exact ⟨v', rfl, hb⟩
  have HD2 : Hid (∀ w v, Rd w v [0, 0, 0, 0, 0] → Calls Try.prog 14 #[v] w fun e w' => ∃ v', e = .returned (.tuple #[v', .int .i64 0, .int .i64 4]) ∧ Below w.heap.size w w') := by
    intro w v h
    refine (decode_any _ [0, 0, 0, 0, 0] w h).mono ?_
    rintro e w' ⟨v', rfl, _, hb⟩
    rw [decF_00]
    exact ⟨v', rfl, hb⟩
  have HS : Hid (∀ w, Calls Try.prog 12 #[.int .i64 0] w fun e w' => e = .returned (.int .i64 5) ∧ Below w.heap.size w w') := by
    intro w
    have := size_any 0 w (by decide) (by decide)
    rw [sizeF_0] at this
    exact this
  have hr1 : ∀ w : World, Rd (w.alloc (.cells #[.int .u8 128] 5)) (.slice (some ⟨w.heap.size, 0, none⟩) 1 1) [128] := by
    intro w
    refine ⟨_, 1, rfl, by decide, by decide, (fun e => by cases e), .inr ⟨_, _, rfl, ?_⟩⟩
    intro j hj
    match j, hj with
    | 0, _ => simp
  have HR1 := hide hr1
  have HR2 : Hid (∀ w : World, Rd (w.alloc (.cells (zeroRow 5) 5)) (.slice (some ⟨w.heap.size, 0, none⟩) 5 5) [0, 0, 0, 0, 0]) := fun w => Rd.made w 5 (by decide)
  have HMK : Hid (∀ w : World, (Instr.makeSlice 22 (.int .i64 5) (.int .i64 5)).run Try.prog w = .ok (.slice (some ⟨w.heap.size, 0, none⟩) 5 5) (w.alloc (.cells (zeroRow 5) 5))) := fun w => run_make_bytes w 5 (by decide)
  clear hr1
  go_enter Try.func9, Try.ntmps9
  go_wp2_with fail
  refine HE.out.mono ?_
  rintro e w1 ⟨v1, rfl, ho1, hb1⟩
  have HB1 := hide hb1
  have hcv : (convert 22 9 v1).run Try.prog w1 = .ok (.string ⟨#[0, 81, 83, 125, 82]⟩) w1 := ho1.rd.str
  have HR3 := hide ho1.rd
  clear ho1 hb1 HE hcv
  go_wp2_with fail
  refine (HD1.out _ _ (HR1.out w1)).mono ?_
  rintro e w2 ⟨v2, rfl, hb2⟩
  have HBa : Hid (Below w1.heap.size w1 (w1.alloc (.cells #[.int .u8 128] 5))) := (Below.refl _ _).alloc (Nat.le_refl _) _
  have HB2 := hide (HB1.out.trans ((HBa.out.trans (hb2.mono HBa.out.size)).mono HB1.out.size))
  have HR4 := hide (HR3.out.below (HBa.out.trans (hb2.mono HBa.out.size)) (Nat.le_refl _))
  clear hb2 HBa HR3 HD1
  have hmk := HMK.out w2
  go_wp2_with fail
  refine (HD2.out _ _ (HR2.out w2)).mono ?_
  rintro e w3 ⟨v3, rfl, hb3⟩
  have HBa : Hid (Below w2.heap.size w2 (w2.alloc (.cells (zeroRow 5) 5))) := (Below.refl _ _).alloc (Nat.le_refl _) _
  have HB3 := hide (HB2.out.trans ((HBa.out.trans (hb3.mono HBa.out.size)).mono HB2.out.size))
  have HR5 := hide (HR4.out.below (HBa.out.trans (hb3.mono HBa.out.size)) (Nat.le_refl _))
  clear hb3 HBa HR4 HD2 hmk HMK
  have hcv : (convert 22 9 v1).run Try.prog w3 = .ok (.string ⟨#[0, 81, 83, 125, 82]⟩) w3 := HR5.out.str
  go_wp2_with fail
  refine (HS.out _).mono ?_
  rintro e w4 ⟨rfl, hb4⟩
  have HB4 := hide (HB3.out.trans (hb4.mono HB3.out.size))
  clear hb4 hcv
  go_wp2
  go_ret
  exact ⟨rfl, HB4.out⟩

end Go.Proofs.Ytmlagndgccdelaa
