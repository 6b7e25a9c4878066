/- Frames: the mathematics of layer frame. -/
import Derived.Test.YtmlagndgccdelaaNumPlain
import Derived.Test.YtmlagndgccdelaaCrcPlain
namespace Go.Proofs.Ytmlagndgccdelaa

/-- The length and the data. -/
def headOf (l : List UInt8) : List UInt8 := Lib.uvarint l.length ++ l

/-- The frame of data. -/
def frameOf (l : List UInt8) : List UInt8 := headOf l ++ Lib.leBytes 4 (crcMore 0 (headOf l))

/-- Bytes that may be the beginning of a length. -/
def isOpen (l : List UInt8) : Prop := l.length < 10 ∧ ∀ j, j < l.length → 128 ≤ (l.getD j 0).toNat

instance (l : List UInt8) : Decidable (isOpen l) := by unfold isOpen; infer_instance

/-- What Decode answers: the data, how many bytes the frame has, the error. -/
def decF (l : List UInt8) : List UInt8 × Nat × Nat :=
  if isOpen l then ([], 0, 2) else
  if (dec62 l).2 = 0 then ([], 0, 3) else
  if 1048576 < (dec62 l).1 then ([], 0, 5) else
  if l.length < (dec62 l).2 + 4 + (dec62 l).1 then ([], 0, 2) else
  if Lib.leNat ((l.drop ((dec62 l).2 + (dec62 l).1)).take 4) ≠ crcMore 0 (l.take ((dec62 l).2 + (dec62 l).1)) then ([], 0, 4) else
  ((l.drop (dec62 l).2).take (dec62 l).1, (dec62 l).2 + 4 + (dec62 l).1, 0)

theorem crc_lt (l : List UInt8) : crcMore 0 l < 4294967296 := crcMore_lt l (by decide)

theorem frameOf_length (l : List UInt8) : (frameOf l).length = (Lib.uvarint l.length).length + l.length + 4 := by
  simp [frameOf, headOf, Lib.leBytes_length]
  omega

theorem len3 {n : Nat} (h : n ≤ 1048576) : (Lib.uvarint n).length ≤ 3 := Lib.uvarint_length 2 n (Nat.lt_of_le_of_lt h (by decide))

theorem open_dec {l : List UInt8} (h : isOpen l) : dec62 l = (0, 0) := by
  have e : dec64 l = (0, 0) := by
    unfold dec64
    rw [dec_miss 10 l (fun j _ hj => h.2 j hj)]
  unfold dec62
  rw [e]
  rfl

theorem dec62_head (x t : List UInt8) (h : x.length ≤ 1048576) : dec62 (Lib.uvarint x.length ++ t) = (x.length, (Lib.uvarint x.length).length) := dec62_uvarint _ _ (by omega)

theorem leBytes_leNat : ∀ (l : List UInt8), Lib.leBytes l.length (Lib.leNat l) = l
  | [] => rfl
  | c :: r => by
    have ih := leBytes_leNat r
    have hc := c.toNat_lt
    have e1 : (c.toNat + 256 * Lib.leNat r) % 256 = c.toNat := by omega
    have e2 : (c.toNat + 256 * Lib.leNat r) / 256 = Lib.leNat r := by omega
    simp only [List.length_cons, Lib.leNat, Lib.leBytes, e1, e2, ih]
    simp

/-- What was encoded is decoded, whatever stands behind it. -/
theorem decF_frame (x t : List UInt8) (h : x.length ≤ 1048576) : decF (frameOf x ++ t) = (x, (frameOf x).length, 0) := by
  have hd : dec62 (frameOf x ++ t) = (x.length, (Lib.uvarint x.length).length) := by
    have e : frameOf x ++ t = Lib.uvarint x.length ++ (x ++ Lib.leBytes 4 (crcMore 0 (headOf x)) ++ t) := by simp [frameOf, headOf]
    rw [e]
    exact dec62_head x _ h
  have hp := Lib.uvarint_pos x.length
  have ho : ¬ isOpen (frameOf x ++ t) := fun ho => by
    have := open_dec ho
    rw [hd, Prod.mk.injEq] at this
    omega
  have hl : (frameOf x ++ t).length = (Lib.uvarint x.length).length + x.length + 4 + t.length := by rw [List.length_append, frameOf_length]
  have hh : (headOf x).length = (Lib.uvarint x.length).length + x.length := by simp [headOf]
  have e1 : (frameOf x ++ t).take ((Lib.uvarint x.length).length + x.length) = headOf x := by
    rw [← hh, frameOf, List.append_assoc, List.take_left]
  have e2 : ((frameOf x ++ t).drop ((Lib.uvarint x.length).length + x.length)).take 4 = Lib.leBytes 4 (crcMore 0 (headOf x)) := by
    rw [← hh, frameOf, List.append_assoc, List.drop_left, List.take_append_of_le_length (by rw [Lib.leBytes_length]; exact Nat.le_refl _), List.take_of_length_le (by rw [Lib.leBytes_length]; exact Nat.le_refl _)]
  have e3 : ((frameOf x ++ t).drop (Lib.uvarint x.length).length).take x.length = x := by
    have e : frameOf x ++ t = Lib.uvarint x.length ++ (x ++ (Lib.leBytes 4 (crcMore 0 (headOf x)) ++ t)) := by simp [frameOf, headOf]
    rw [e, List.drop_left, List.take_left]
  unfold decF
  rw [if_neg ho]
  simp only [hd]
  rw [if_neg (by omega), if_neg (by omega), if_neg (by omega), if_neg (by rw [e1, e2, Lib.leNat_leBytes 4 _ (crc_lt _)]; simp), e3, frameOf_length]
  congr 2
  omega

/-- What is decoded is of a frame. -/
theorem decF_ok {l : List UInt8} (h : (decF l).2.2 = 0) :
    (decF l).1.length ≤ 1048576 ∧ (decF l).2.1 = (frameOf (decF l).1).length ∧ (decF l).2.1 ≤ l.length ∧ l.take (decF l).2.1 = frameOf (decF l).1 := by
  unfold decF at h ⊢
  by_cases c1 : isOpen l
  · rw [if_pos c1] at h; simp at h
  rw [if_neg c1] at h ⊢
  by_cases c2 : (dec62 l).2 = 0
  · rw [if_pos c2] at h; simp at h
  rw [if_neg c2] at h ⊢
  by_cases c3 : 1048576 < (dec62 l).1
  · rw [if_pos c3] at h; simp at h
  rw [if_neg c3] at h ⊢
  by_cases c4 : l.length < (dec62 l).2 + 4 + (dec62 l).1
  · rw [if_pos c4] at h; simp at h
  rw [if_neg c4] at h ⊢
  by_cases c5 : Lib.leNat ((l.drop ((dec62 l).2 + (dec62 l).1)).take 4) ≠ crcMore 0 (l.take ((dec62 l).2 + (dec62 l).1))
  · rw [if_pos c5] at h; simp at h
  rw [if_neg c5]
  clear h
  rcases dec62_cases l with hc | ⟨h1, h2, h3, h4⟩
  · rw [hc] at c2; simp at c2
  generalize (dec62 l).1 = n at *
  generalize (dec62 l).2 = k at *
  have hx : ((l.drop k).take n).length = n := by simp; omega
  have hk : (Lib.uvarint n).length = k := by rw [← h4]; simp; omega
  have hhead : headOf ((l.drop k).take n) = l.take (k + n) := by
    unfold headOf
    rw [hx, ← h4, List.take_add]
  have htail : (l.drop (k + n)).take 4 = Lib.leBytes 4 (crcMore 0 (l.take (k + n))) := by
    have e := leBytes_leNat ((l.drop (k + n)).take 4)
    have e4 : ((l.drop (k + n)).take 4).length = 4 := by simp; omega
    rw [e4] at e
    rw [← Decidable.not_not.1 c5, e]
  refine ⟨by show ((l.drop k).take n).length ≤ _; omega, ?_, by show k + 4 + n ≤ _; omega, ?_⟩
  · show k + 4 + n = _
    rw [frameOf_length, hx, hk]
    omega
  · show l.take (k + 4 + n) = frameOf ((l.drop k).take n)
    unfold frameOf
    rw [hhead, ← htail, show k + 4 + n = (k + n) + 4 by omega, List.take_add]

theorem decF_err {l : List UInt8} (h : (decF l).2.2 ≠ 0) : (decF l).1 = [] ∧ (decF l).2.1 = 0 := by
  unfold decF at h ⊢
  split
  · exact ⟨rfl, rfl⟩
  split
  · exact ⟨rfl, rfl⟩
  split
  · exact ⟨rfl, rfl⟩
  split
  · exact ⟨rfl, rfl⟩
  split
  · exact ⟨rfl, rfl⟩
  · rename_i c1 c2 c3 c4 c5
    rw [if_neg c1, if_neg c2, if_neg c3, if_neg c4, if_neg c5] at h
    simp at h

theorem decF_codes (l : List UInt8) : (decF l).2.2 < 6 := by
  unfold decF
  repeat' split
  all_goals simp

theorem decF_five {l : List UInt8} (h : (decF l).2.2 = 0) : 5 ≤ (decF l).2.1 := by
  obtain ⟨_, h2, _, _⟩ := decF_ok h
  rw [h2, frameOf_length]
  have := Lib.uvarint_pos (decF l).1.length
  omega

theorem decF_le (l : List UInt8) : (decF l).2.1 ≤ l.length := by
  by_cases h : (decF l).2.2 = 0
  · exact (decF_ok h).2.2.1
  · rw [(decF_err h).2]; omega

theorem decF_data_le (l : List UInt8) : (decF l).1.length ≤ l.length := by
  by_cases h : (decF l).2.2 = 0
  · obtain ⟨_, h2, h3, _⟩ := decF_ok h
    rw [h2, frameOf_length] at h3
    omega
  · rw [(decF_err h).1]; simp

theorem uvarint_open : ∀ (n u j : Nat), (Lib.uvarint u).length ≤ n → j + 1 < (Lib.uvarint u).length → 128 ≤ ((Lib.uvarint u).getD j 0).toNat
  | 0, u, _, h, _ => by have := Lib.uvarint_pos u; omega
  | n + 1, u, j, h, hj => by
    by_cases hu : u < 128
    · rw [Lib.uvarint_small hu] at hj
      simp at hj
    · rw [Lib.uvarint_big (by omega)] at h hj ⊢
      cases j with
      | zero =>
        have e : ((u % 128 + 128).toUInt8).toNat = u % 128 + 128 := Lib.toUInt8_toNat (by omega)
        simp only [List.getD_cons_zero, e]
        omega
      | succ j =>
        simp only [List.length_cons] at h hj
        simp only [List.getD_cons_succ]
        exact uvarint_open n (u / 128) j (by omega) (by omega)

/-- A frame that is cut off. -/
theorem decF_cut (x : List UInt8) (m : Nat) (h : x.length ≤ 1048576) (hm : m < (frameOf x).length) : decF ((frameOf x).take m) = ([], 0, 2) := by
  have h3 := len3 h
  by_cases hk : m < (Lib.uvarint x.length).length
  · have ho : isOpen ((frameOf x).take m) := by
      have e : (frameOf x).take m = (Lib.uvarint x.length).take m := by
        rw [frameOf, headOf, List.append_assoc, List.take_append_of_le_length (by omega)]
      rw [e]
      refine ⟨by simp; omega, fun j hj => ?_⟩
      have hj' : j < m := by simp at hj; omega
      have e2 : ((Lib.uvarint x.length).take m).getD j 0 = (Lib.uvarint x.length).getD j 0 := by simp [List.getD, hj']
      rw [e2]
      exact uvarint_open _ _ j (Nat.le_refl _) (by omega)
    unfold decF
    rw [if_pos ho]
  · have hlen : ((frameOf x).take m).length = m := by simp; omega
    have hd : dec62 ((frameOf x).take m) = (x.length, (Lib.uvarint x.length).length) := by
      have e : (frameOf x).take m = Lib.uvarint x.length ++ (x ++ Lib.leBytes 4 (crcMore 0 (headOf x))).take (m - (Lib.uvarint x.length).length) := by
        rw [frameOf, headOf, List.append_assoc, List.take_append, List.take_of_length_le (by omega)]
      rw [e]
      exact dec62_head x _ h
    have hp := Lib.uvarint_pos x.length
    have ho : ¬ isOpen ((frameOf x).take m) := fun ho => by
      have := open_dec ho
      rw [hd, Prod.mk.injEq] at this
      omega
    rw [frameOf_length] at hm
    unfold decF
    rw [if_neg ho]
    simp only [hd, hlen]
    rw [if_neg (by omega), if_neg (by omega), if_pos (by omega)]

/-- Whole frames with their sum have one sum all. -/
theorem frame_sum (x : List UInt8) : crcMore 0 (frameOf x) = ticks 32 4294967295 ^^^ 4294967295 := by
  unfold frameOf
  have hl := crc_lt (headOf x)
  rw [crcMore_append]
  generalize crcMore 0 (headOf x) = s at *
  unfold crcMore
  rw [crcReg_ticks, Lib.leBytes_length, Lib.leNat_leBytes 4 s hl]
  congr 2
  rw [Nat.xor_comm s, Nat.xor_assoc, Nat.xor_self, Nat.xor_zero]

/-- All whole frames, by a number of rounds. -/
def wholeG : Nat → List UInt8 → List (List UInt8) × Nat × Nat
  | 0, _ => ([], 0, 0)
  | f + 1, l => if l = [] then ([], 0, 0) else if (decF l).2.2 ≠ 0 then ([], 0, (decF l).2.2) else
      ((decF l).1 :: (wholeG f (l.drop (decF l).2.1)).1, (decF l).2.1 + (wholeG f (l.drop (decF l).2.1)).2.1, (wholeG f (l.drop (decF l).2.1)).2.2)

/-- All whole frames, how many bytes these have, and the error that ends them. -/
def wholeF (l : List UInt8) : List (List UInt8) × Nat × Nat := wholeG l.length l

theorem wholeG_more : ∀ (f g : Nat) (l : List UInt8), l.length ≤ f → l.length ≤ g → wholeG f l = wholeG g l
  | 0, g, l, h, _ => by
    have e : l = [] := List.eq_nil_of_length_eq_zero (by omega)
    subst e
    cases g <;> simp [wholeG]
  | f + 1, 0, l, _, h => by
    have e : l = [] := List.eq_nil_of_length_eq_zero (by omega)
    subst e
    simp [wholeG]
  | f + 1, g + 1, l, hf, hg => by
    unfold wholeG
    by_cases e : l = []
    · rw [if_pos e, if_pos e]
    rw [if_neg e, if_neg e]
    by_cases e2 : (decF l).2.2 ≠ 0
    · rw [if_pos e2, if_pos e2]
    rw [if_neg e2, if_neg e2]
    have h5 := decF_five (Decidable.not_not.1 e2)
    rw [wholeG_more f g (l.drop (decF l).2.1) (by simp; omega) (by simp; omega)]

theorem wholeF_nil : wholeF [] = ([], 0, 0) := rfl

theorem wholeF_stop {l : List UInt8} (h0 : l ≠ []) (h : (decF l).2.2 ≠ 0) : wholeF l = ([], 0, (decF l).2.2) := by
  unfold wholeF
  cases l with
  | nil => exact absurd rfl h0
  | cons c r =>
    rw [List.length_cons, wholeG, if_neg h0, if_pos h]

theorem wholeF_step {l : List UInt8} (h0 : l ≠ []) (h : (decF l).2.2 = 0) :
    wholeF l = ((decF l).1 :: (wholeF (l.drop (decF l).2.1)).1, (decF l).2.1 + (wholeF (l.drop (decF l).2.1)).2.1, (wholeF (l.drop (decF l).2.1)).2.2) := by
  have h5 := decF_five h
  unfold wholeF
  cases l with
  | nil => exact absurd rfl h0
  | cons c r =>
    rw [List.length_cons, wholeG, if_neg h0, if_neg (Decidable.not_not.2 h), wholeG_more r.length ((c :: r).drop (decF (c :: r)).2.1).length _ (by simp; omega) (Nat.le_refl _)]

/-- Frames, one behind the other. -/
def framesOf (L : List (List UInt8)) : List UInt8 := L.flatMap frameOf

/-- Where the frames end that are whole within so many bytes, and how many they are. -/
def wholes : List (List UInt8) → Nat → Nat × Nat
  | [], _ => (0, 0)
  | x :: L, m => if (frameOf x).length ≤ m then ((wholes L (m - (frameOf x).length)).1 + 1, (wholes L (m - (frameOf x).length)).2 + (frameOf x).length) else (0, 0)

theorem wholes_le : ∀ (L : List (List UInt8)) (m : Nat), (wholes L m).1 ≤ L.length ∧ (wholes L m).2 ≤ m
  | [], m => by simp [wholes]
  | x :: L, m => by
    have ih := wholes_le L (m - (frameOf x).length)
    unfold wholes
    split
    · simp; omega
    · simp

theorem wholeF_cut : ∀ (L : List (List UInt8)) (m : Nat), (∀ x ∈ L, x.length ≤ 1048576) → m ≤ (framesOf L).length →
    wholeF ((framesOf L).take m) = (L.take (wholes L m).1, (wholes L m).2, if (wholes L m).2 = m then 0 else 2)
  | [], m, _, hm => by
    have e : m = 0 := by simp [framesOf] at hm; omega
    subst e
    rfl
  | x :: L, m, hx, hm => by
    have hx1 := hx x (by simp)
    have hpos : 5 ≤ (frameOf x).length := by
      rw [frameOf_length]
      have := Lib.uvarint_pos x.length
      omega
    have eF : framesOf (x :: L) = frameOf x ++ framesOf L := by simp [framesOf]
    rw [eF] at hm ⊢
    rw [List.length_append] at hm
    by_cases hf : (frameOf x).length ≤ m
    · have et : (frameOf x ++ framesOf L).take m = frameOf x ++ (framesOf L).take (m - (frameOf x).length) := by
        rw [List.take_append, List.take_of_length_le hf]
      have ih := wholeF_cut L (m - (frameOf x).length) (fun y hy => hx y (by simp [hy])) (by omega)
      have hd := decF_frame x ((framesOf L).take (m - (frameOf x).length)) hx1
      have hne : frameOf x ++ (framesOf L).take (m - (frameOf x).length) ≠ [] := fun e => by
        have := congrArg List.length e
        rw [List.length_append, List.length_nil] at this
        omega
      rw [et, wholeF_step hne (by rw [hd]), hd]
      simp only [List.drop_left]
      have hw := (wholes_le L (m - (frameOf x).length)).2
      rw [ih, wholes, if_pos hf]
      simp only [List.take_succ_cons, Prod.mk.injEq, true_and]
      refine ⟨by omega, ?_⟩
      by_cases e : (wholes L (m - (frameOf x).length)).2 = m - (frameOf x).length
      · rw [if_pos e, if_pos (by omega)]
      · rw [if_neg e, if_neg (by omega)]
    · have et : (frameOf x ++ framesOf L).take m = (frameOf x).take m := by
        rw [List.take_append_of_le_length (by omega)]
      have hd := decF_cut x m hx1 (by omega)
      rw [et, wholes, if_neg hf]
      by_cases h0 : m = 0
      · subst h0
        rfl
      · have hne : (frameOf x).take m ≠ [] := fun e => by
          have := congrArg List.length e
          rw [List.length_take, List.length_nil] at this
          omega
        rw [wholeF_stop hne (by rw [hd]; decide), hd]
        simp only [List.take_zero, Prod.mk.injEq, true_and]
        rw [if_neg (by omega)]

/-- What Size answers. -/
def sizeF (n : Int) : Nat := if 0 ≤ n ∧ n ≤ 1048576 then (Lib.uvarint n.toNat).length + 4 + n.toNat else 0

end Go.Proofs.Ytmlagndgccdelaa
