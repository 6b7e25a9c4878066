import Derived.Lib.VarintMem
import Derived.Lib.Endian
import Derived.Test.YtpopbandpnaicaaGreatDoorPack1
import Derived.Shelf.SlMaps.Clone
import Derived.Shelf.SlMaps.Copy
import Derived.Shelf.Sort.Plain
import Derived.Shelf.Slices.In.SortNone
import Derived.Maps.OwnOps
import Derived.Maps.OwnSet
import Derived.Maps.Views
import Derived.Maps.RangeWalk
import Derived.Maps.Ext
namespace Go.Proofs.YtpopbandpnaicaaGreatDoor

def tick (x : Nat) : Nat := if x % 2 = 1 then x / 2 ^^^ 2197175160 else x / 2

def ticks : Nat -> Nat -> Nat
 | 0, x => x
 | n + 1, x => ticks n (tick x)

def entry (c : Nat) : Nat := ticks 8 c

def crcByte (x c : Nat) : Nat := entry ((x ^^^ c) % 256) ^^^ x / 256

def crcReg : Nat -> List UInt8 -> Nat
 | x, [] => x
 | x, c :: r => crcReg (crcByte x c.toNat) r

def crcMore (sum : Nat) (l : List UInt8) : Nat := crcReg (sum ^^^ 4294967295) l ^^^ 4294967295

theorem xor_mod2 (a b : Nat) : (a ^^^ b) % 2 = (a % 2 + b % 2) % 2 := by
 have h := @Nat.xor_mod_two_pow a b 1
 simp only [Nat.pow_one] at h
 rw [h]
 rcases Nat.mod_two_eq_zero_or_one a with ha | ha <;> rcases Nat.mod_two_eq_zero_or_one b with hb | hb <;> rw [ha, hb] <;> rfl

theorem xor_div2 (a b : Nat) : (a ^^^ b) / 2 = a / 2 ^^^ b / 2 := by
 have h := @Nat.shiftRight_xor_distrib 1 a b
 simpa [Nat.shiftRight_eq_div_pow] using h

theorem xor_cancel4 (a b p : Nat) : (a ^^^ p) ^^^ (b ^^^ p) = a ^^^ b := by
 rw [Nat.xor_comm b p, <- Nat.xor_assoc, Nat.xor_assoc a p p, Nat.xor_self, Nat.xor_zero]

theorem tick_xor (a b : Nat) : tick (a ^^^ b) = tick a ^^^ tick b := by
 unfold tick
 rw [xor_mod2, xor_div2]
 rcases Nat.mod_two_eq_zero_or_one a with ha | ha <;> rcases Nat.mod_two_eq_zero_or_one b with hb | hb <;> simp only [ha, hb]
 · rfl
 · simp [Nat.xor_assoc]
 · simp only [if_true, if_false, Nat.zero_ne_one]
   rw [Nat.xor_assoc, Nat.xor_assoc, Nat.xor_comm (b / 2)]
 · simp [xor_cancel4]

theorem ticks_xor : ∀ (n a b : Nat), ticks n (a ^^^ b) = ticks n a ^^^ ticks n b
 | 0, _, _ => rfl
 | n + 1, a, b => by
   simp only [ticks]
   rw [tick_xor, ticks_xor n]

theorem ticks_add : ∀ (m n x : Nat), ticks (m + n) x = ticks n (ticks m x)
 | 0, n, x => by rw [Nat.zero_add]; rfl
 | m + 1, n, x => by
   rw [Nat.add_right_comm]
   simp only [ticks]
   exact ticks_add m n (tick x)

theorem tick_even (x : Nat) : tick (2 * x) = x := by
 unfold tick
 rw [if_neg (by omega)]
 omega

theorem ticks_pow : ∀ (n x : Nat), ticks n (2 ^ n * x) = x
 | 0, x => by simp [ticks]
 | n + 1, x => by
   simp only [ticks]
   rw [Nat.pow_succ, Nat.mul_comm (2 ^ n) 2, Nat.mul_assoc, tick_even]
   exact ticks_pow n x

theorem tick_lt {n x : Nat} (hn : 32 <= n) (h : x < 2 ^ n) : tick x < 2 ^ n := by
 unfold tick
 have h2 : x / 2 < 2 ^ n := by omega
 split
 · refine Nat.xor_lt_two_pow h2 (Nat.lt_of_lt_of_le (by decide : 2197175160 < 2 ^ 32) (Nat.pow_le_pow_right (by decide) hn))
 · exact h2

theorem ticks_lt : ∀ (k : Nat) {n x : Nat}, 32 <= n -> x < 2 ^ n -> ticks k x < 2 ^ n
 | 0, _, _, _, h => h
 | k + 1, _, _, hn, h => ticks_lt k hn (tick_lt hn h)

theorem low_high (z n : Nat) : z = z % 2 ^ n ^^^ 2 ^ n * (z / 2 ^ n) := by
 apply Nat.eq_of_testBit_eq
 intro i
 rw [Nat.testBit_xor, Nat.testBit_mod_two_pow, Nat.testBit_two_pow_mul]
 by_cases h : i < n
 · have h2 : ¬ n <= i := by omega
   simp [h, h2]
 · have h2 : n <= i := by omega
   simp only [h, h2, decide_false, decide_true, Bool.false_and, Bool.true_and, Bool.false_xor, Nat.testBit_div_two_pow]
   rw [Nat.sub_add_cancel h2]

theorem crcByte_ticks (x c : Nat) (hc : c < 256) : crcByte x c = ticks 8 (x ^^^ c) := by
 have e : (x ^^^ c) / 256 = x / 256 := by
   have h := @Nat.shiftRight_xor_distrib 8 x c
   simp only [Nat.shiftRight_eq_div_pow] at h
   have h0 : c / 2 ^ 8 = 0 := by omega
   rw [h0, Nat.xor_zero] at h
   exact h
 have h := low_high (x ^^^ c) 8
 unfold crcByte entry
 conv => rhs; rw [h]
 rw [ticks_xor, ticks_pow]
 show _ = ticks 8 ((x ^^^ c) % 256) ^^^ (x ^^^ c) / 256
 rw [e]

theorem crcReg_append : ∀ (a b : List UInt8) (x : Nat), crcReg x (a ++ b) = crcReg (crcReg x a) b
 | [], _, _ => rfl
 | c :: r, b, x => by
   rw [List.cons_append, crcReg, crcReg]
   exact crcReg_append r b _

theorem crcByte_lt {x c : Nat} (hx : x < 4294967296) (hc : c < 256) : crcByte x c < 4294967296 := by
 rw [crcByte_ticks x c hc]
 have h : x ^^^ c < 2 ^ 32 := Nat.xor_lt_two_pow (by omega) (by omega)
 have := ticks_lt 8 (Nat.le_refl 32) h
 omega

theorem crcReg_lt : ∀ (l : List UInt8) {x : Nat}, x < 4294967296 -> crcReg x l < 4294967296
 | [], _, h => h
 | c :: r, x, h => crcReg_lt r (crcByte_lt h (by have := c.toNat_lt; omega))

theorem not_lt {x : Nat} (h : x < 4294967296) : x ^^^ 4294967295 < 4294967296 := by
 have := Nat.xor_lt_two_pow (n := 32) (by omega : x < 2 ^ 32) (by decide : 4294967295 < 2 ^ 32)
 omega

theorem crcMore_lt {sum : Nat} (l : List UInt8) (h : sum < 4294967296) : crcMore sum l < 4294967296 := not_lt (crcReg_lt l (not_lt h))

theorem leNat_lt256 : ∀ l : List UInt8, Lib.leNat l < 2 ^ (8 * l.length)
 | [] => by simp [Lib.leNat]
 | c :: r => by
   have h := leNat_lt256 r
   have hc := c.toNat_lt
   have e : 8 * (c :: r).length = 8 * r.length + 8 := by simp; omega
   simp only [Lib.leNat]
   rw [e, Nat.pow_add]
   omega

def headOf (l : List UInt8) : List UInt8 := Lib.uvarint l.length ++ l

def frameOf (l : List UInt8) : List UInt8 := headOf l ++ Lib.leBytes 4 (crcMore 0 (headOf l))

def isOpen (l : List UInt8) : Prop := l.length < 10 ∧ ∀ j, j < l.length -> 128 <= (l.getD j 0).toNat

instance (l : List UInt8) : Decidable (isOpen l) := by unfold isOpen; infer_instance

def decF (l : List UInt8) : List UInt8 × Nat × Nat :=
 if isOpen l then ([], 0, 2) else
 if (dec62 l).2 = 0 then ([], 0, 3) else
 if 1048576 < (dec62 l).1 then ([], 0, 5) else
 if l.length < (dec62 l).2 + 4 + (dec62 l).1 then ([], 0, 2) else
 if Lib.leNat ((l.drop ((dec62 l).2 + (dec62 l).1)).take 4) ≠ crcMore 0 (l.take ((dec62 l).2 + (dec62 l).1)) then ([], 0, 4) else
 ((l.drop (dec62 l).2).take (dec62 l).1, (dec62 l).2 + 4 + (dec62 l).1, 0)

theorem crc_lt (l : List UInt8) : crcMore 0 l < 4294967296 := crcMore_lt l (by decide)

theorem frameOf_length (l : List UInt8) : (frameOf l).length = (Lib.uvarint l.length).length + l.length + 4 := by
 simp [frameOf, headOf, Lib.leBytes_length]
 omega

theorem len3 {n : Nat} (h : n <= 1048576) : (Lib.uvarint n).length <= 3 := Lib.uvarint_length 2 n (Nat.lt_of_le_of_lt h (by decide))

theorem open_dec {l : List UInt8} (h : isOpen l) : dec62 l = (0, 0) := by
 have e : dec64 l = (0, 0) := by
   unfold dec64
   rw [dec_miss 10 l (fun j _ hj => h.2 j hj)]
 unfold dec62
 rw [e]
 rfl

theorem dec62_head (x t : List UInt8) (h : x.length <= 1048576) : dec62 (Lib.uvarint x.length ++ t) = (x.length, (Lib.uvarint x.length).length) := dec62_uvarint _ _ (by omega)

theorem leBytes_leNat : ∀ (l : List UInt8), Lib.leBytes l.length (Lib.leNat l) = l
 | [] => rfl
 | c :: r => by
   have ih := leBytes_leNat r
   have hc := c.toNat_lt
   have e1 : (c.toNat + 256 * Lib.leNat r) % 256 = c.toNat := by omega
   have e2 : (c.toNat + 256 * Lib.leNat r) / 256 = Lib.leNat r := by omega
   simp only [List.length_cons, Lib.leNat, Lib.leBytes, e1, e2, ih]
   simp

theorem decF_frame (x t : List UInt8) (h : x.length <= 1048576) : decF (frameOf x ++ t) = (x, (frameOf x).length, 0) := by
 have hd : dec62 (frameOf x ++ t) = (x.length, (Lib.uvarint x.length).length) := by
   have e : frameOf x ++ t = Lib.uvarint x.length ++ (x ++ Lib.leBytes 4 (crcMore 0 (headOf x)) ++ t) := by simp [frameOf, headOf]
   rw [e]
   exact dec62_head x _ h
 have hp := Lib.uvarint_pos x.length
 have ho : ¬ isOpen (frameOf x ++ t) := fun ho => by
   have := open_dec ho
   rw [hd, Prod.mk.injEq] at this
   omega
 have hl : (frameOf x ++ t).length = (Lib.uvarint x.length).length + x.length + 4 + t.length := by rw [List.length_append, frameOf_length]
 have hh : (headOf x).length = (Lib.uvarint x.length).length + x.length := by simp [headOf]
 have e1 : (frameOf x ++ t).take ((Lib.uvarint x.length).length + x.length) = headOf x := by
   rw [<- hh, frameOf, List.append_assoc, List.take_left]
 have e2 : ((frameOf x ++ t).drop ((Lib.uvarint x.length).length + x.length)).take 4 = Lib.leBytes 4 (crcMore 0 (headOf x)) := by
   rw [<- hh, frameOf, List.append_assoc, List.drop_left, List.take_append_of_le_length (by rw [Lib.leBytes_length]; exact Nat.le_refl _), List.take_of_length_le (by rw [Lib.leBytes_length]; exact Nat.le_refl _)]
 have e3 : ((frameOf x ++ t).drop (Lib.uvarint x.length).length).take x.length = x := by
   have e : frameOf x ++ t = Lib.uvarint x.length ++ (x ++ (Lib.leBytes 4 (crcMore 0 (headOf x)) ++ t)) := by simp [frameOf, headOf]
   rw [e, List.drop_left, List.take_left]
 unfold decF
 rw [if_neg ho]
 simp only [hd]
 rw [if_neg (by omega), if_neg (by omega), if_neg (by omega), if_neg (by rw [e1, e2, Lib.leNat_leBytes 4 _ (crc_lt _)]; simp), e3, frameOf_length]
 congr 2
 omega

theorem decF_ok {l : List UInt8} (h : (decF l).2.2 = 0) :
   (decF l).1.length <= 1048576 ∧ (decF l).2.1 = (frameOf (decF l).1).length ∧ (decF l).2.1 <= l.length ∧ l.take (decF l).2.1 = frameOf (decF l).1 := by
 unfold decF at h ⊢
 by_cases c1 : isOpen l
 · rw [if_pos c1] at h; simp at h
 rw [if_neg c1] at h ⊢
 by_cases c2 : (dec62 l).2 = 0
 · rw [if_pos c2] at h; simp at h
 rw [if_neg c2] at h ⊢
 by_cases c3 : 1048576 < (dec62 l).1
 · rw [if_pos c3] at h; simp at h
 rw [if_neg c3] at h ⊢
 by_cases c4 : l.length < (dec62 l).2 + 4 + (dec62 l).1
 · rw [if_pos c4] at h; simp at h
 rw [if_neg c4] at h ⊢
 by_cases c5 : Lib.leNat ((l.drop ((dec62 l).2 + (dec62 l).1)).take 4) ≠ crcMore 0 (l.take ((dec62 l).2 + (dec62 l).1))
 · rw [if_pos c5] at h; simp at h
 rw [if_neg c5]
 clear h
 rcases dec62_cases l with hc | ⟨h1, h2, h3, h4⟩
 · rw [hc] at c2; simp at c2
 generalize (dec62 l).1 = n at *
 generalize (dec62 l).2 = k at *
 have hx : ((l.drop k).take n).length = n := by simp; omega
 have hk : (Lib.uvarint n).length = k := by rw [<- h4]; simp; omega
 have hhead : headOf ((l.drop k).take n) = l.take (k + n) := by
   unfold headOf
   rw [hx, <- h4, List.take_add]
 have htail : (l.drop (k + n)).take 4 = Lib.leBytes 4 (crcMore 0 (l.take (k + n))) := by
   have e := leBytes_leNat ((l.drop (k + n)).take 4)
   have e4 : ((l.drop (k + n)).take 4).length = 4 := by simp; omega
   rw [e4] at e
   rw [<- Decidable.not_not.1 c5, e]
 refine ⟨by show ((l.drop k).take n).length <= _; omega, ?_, by show k + 4 + n <= _; omega, ?_⟩
 · show k + 4 + n = _
   rw [frameOf_length, hx, hk]
   omega
 · show l.take (k + 4 + n) = frameOf ((l.drop k).take n)
   unfold frameOf
   rw [hhead, <- htail, show k + 4 + n = (k + n) + 4 by omega, List.take_add]

theorem decF_err {l : List UInt8} (h : (decF l).2.2 ≠ 0) : (decF l).1 = [] ∧ (decF l).2.1 = 0 := by
 unfold decF at h ⊢
 split
 · exact ⟨rfl, rfl⟩
 split
 · exact ⟨rfl, rfl⟩
 split
 · exact ⟨rfl, rfl⟩
 split
 · exact ⟨rfl, rfl⟩
 split
 · exact ⟨rfl, rfl⟩
 · rename_i c1 c2 c3 c4 c5
   rw [if_neg c1, if_neg c2, if_neg c3, if_neg c4, if_neg c5] at h
   simp at h

theorem decF_five {l : List UInt8} (h : (decF l).2.2 = 0) : 5 <= (decF l).2.1 := by
 obtain ⟨_, h2, _, _⟩ := decF_ok h
 rw [h2, frameOf_length]
 have := Lib.uvarint_pos (decF l).1.length
 omega

theorem decF_le (l : List UInt8) : (decF l).2.1 <= l.length := by
 by_cases h : (decF l).2.2 = 0
 · exact (decF_ok h).2.2.1
 · rw [(decF_err h).2]; omega

theorem decF_cut (x : List UInt8) (m : Nat) (h : x.length <= 1048576) (hm : m < (frameOf x).length) : decF ((frameOf x).take m) = ([], 0, 2) := by
 have h3 := len3 h
 by_cases hk : m < (Lib.uvarint x.length).length
 · have ho : isOpen ((frameOf x).take m) := by
     have e : (frameOf x).take m = (Lib.uvarint x.length).take m := by
       rw [frameOf, headOf, List.append_assoc, List.take_append_of_le_length (by omega)]
     rw [e]
     refine ⟨by simp; omega, fun j hj => ?_⟩
     have hj' : j < m := by simp at hj; omega
     have e2 : ((Lib.uvarint x.length).take m).getD j 0 = (Lib.uvarint x.length).getD j 0 := by simp [List.getD, hj']
     rw [e2]
     exact uvarint_open _ _ j (Nat.le_refl _) (by omega)
   unfold decF
   rw [if_pos ho]
 · have hlen : ((frameOf x).take m).length = m := by simp; omega
   have hd : dec62 ((frameOf x).take m) = (x.length, (Lib.uvarint x.length).length) := by
     have e : (frameOf x).take m = Lib.uvarint x.length ++ (x ++ Lib.leBytes 4 (crcMore 0 (headOf x))).take (m - (Lib.uvarint x.length).length) := by
       rw [frameOf, headOf, List.append_assoc, List.take_append, List.take_of_length_le (by omega)]
     rw [e]
     exact dec62_head x _ h
   have hp := Lib.uvarint_pos x.length
   have ho : ¬ isOpen ((frameOf x).take m) := fun ho => by
     have := open_dec ho
     rw [hd, Prod.mk.injEq] at this
     omega
   rw [frameOf_length] at hm
   unfold decF
   rw [if_neg ho]
   simp only [hd, hlen]
   rw [if_neg (by omega), if_neg (by omega), if_pos (by omega)]

def wholeG : Nat -> List UInt8 -> List (List UInt8) × Nat × Nat
 | 0, _ => ([], 0, 0)
 | f + 1, l => if l = [] then ([], 0, 0) else if (decF l).2.2 ≠ 0 then ([], 0, (decF l).2.2) else
     ((decF l).1 :: (wholeG f (l.drop (decF l).2.1)).1, (decF l).2.1 + (wholeG f (l.drop (decF l).2.1)).2.1, (wholeG f (l.drop (decF l).2.1)).2.2)

def wholeF (l : List UInt8) : List (List UInt8) × Nat × Nat := wholeG l.length l

theorem wholeG_more : ∀ (f g : Nat) (l : List UInt8), l.length <= f -> l.length <= g -> wholeG f l = wholeG g l
 | 0, g, l, h, _ => by
   have e : l = [] := List.eq_nil_of_length_eq_zero (by omega)
   subst e
   cases g <;> simp [wholeG]
 | f + 1, 0, l, _, h => by
   have e : l = [] := List.eq_nil_of_length_eq_zero (by omega)
   subst e
   simp [wholeG]
 | f + 1, g + 1, l, hf, hg => by
   unfold wholeG
   by_cases e : l = []
   · rw [if_pos e, if_pos e]
   rw [if_neg e, if_neg e]
   by_cases e2 : (decF l).2.2 ≠ 0
   · rw [if_pos e2, if_pos e2]
   rw [if_neg e2, if_neg e2]
   have h5 := decF_five (Decidable.not_not.1 e2)
   rw [wholeG_more f g (l.drop (decF l).2.1) (by simp; omega) (by simp; omega)]

theorem wholeF_nil : wholeF [] = ([], 0, 0) := rfl

theorem wholeF_stop {l : List UInt8} (h0 : l ≠ []) (h : (decF l).2.2 ≠ 0) : wholeF l = ([], 0, (decF l).2.2) := by
 unfold wholeF
 cases l with
 | nil => exact absurd rfl h0
 | cons c r =>
   rw [List.length_cons, wholeG, if_neg h0, if_pos h]

theorem wholeF_step {l : List UInt8} (h0 : l ≠ []) (h : (decF l).2.2 = 0) :
   wholeF l = ((decF l).1 :: (wholeF (l.drop (decF l).2.1)).1, (decF l).2.1 + (wholeF (l.drop (decF l).2.1)).2.1, (wholeF (l.drop (decF l).2.1)).2.2) := by
 have h5 := decF_five h
 unfold wholeF
 cases l with
 | nil => exact absurd rfl h0
 | cons c r =>
   rw [List.length_cons, wholeG, if_neg h0, if_neg (Decidable.not_not.2 h), wholeG_more r.length ((c :: r).drop (decF (c :: r)).2.1).length _ (by simp; omega) (Nat.le_refl _)]

def framesOf (L : List (List UInt8)) : List UInt8 := L.flatMap frameOf

def wholes : List (List UInt8) -> Nat -> Nat × Nat
 | [], _ => (0, 0)
 | x :: L, m => if (frameOf x).length <= m then ((wholes L (m - (frameOf x).length)).1 + 1, (wholes L (m - (frameOf x).length)).2 + (frameOf x).length) else (0, 0)

theorem wholes_le : ∀ (L : List (List UInt8)) (m : Nat), (wholes L m).1 <= L.length ∧ (wholes L m).2 <= m
 | [], m => by simp [wholes]
 | x :: L, m => by
   have ih := wholes_le L (m - (frameOf x).length)
   unfold wholes
   split
   · simp; omega
   · simp

theorem wholeF_cut : ∀ (L : List (List UInt8)) (m : Nat), (∀ x ∈ L, x.length <= 1048576) -> m <= (framesOf L).length ->
   wholeF ((framesOf L).take m) = (L.take (wholes L m).1, (wholes L m).2, if (wholes L m).2 = m then 0 else 2)
 | [], m, _, hm => by
   have e : m = 0 := by simp [framesOf] at hm; omega
   subst e
   rfl
 | x :: L, m, hx, hm => by
   have hx1 := hx x (by simp)
   have hpos : 5 <= (frameOf x).length := by
     rw [frameOf_length]
     have := Lib.uvarint_pos x.length
     omega
   have eF : framesOf (x :: L) = frameOf x ++ framesOf L := by simp [framesOf]
   rw [eF] at hm ⊢
   rw [List.length_append] at hm
   by_cases hf : (frameOf x).length <= m
   · have et : (frameOf x ++ framesOf L).take m = frameOf x ++ (framesOf L).take (m - (frameOf x).length) := by
       rw [List.take_append, List.take_of_length_le hf]
     have ih := wholeF_cut L (m - (frameOf x).length) (fun y hy => hx y (by simp [hy])) (by omega)
     have hd := decF_frame x ((framesOf L).take (m - (frameOf x).length)) hx1
     have hne : frameOf x ++ (framesOf L).take (m - (frameOf x).length) ≠ [] := fun e => by
       have := congrArg List.length e
       rw [List.length_append, List.length_nil] at this
       omega
     rw [et, wholeF_step hne (by rw [hd]), hd]
     simp only [List.drop_left]
     have hw := (wholes_le L (m - (frameOf x).length)).2
     rw [ih, wholes, if_pos hf]
     simp only [List.take_succ_cons, Prod.mk.injEq, true_and]
     refine ⟨by omega, ?_⟩
     by_cases e : (wholes L (m - (frameOf x).length)).2 = m - (frameOf x).length
     · rw [if_pos e, if_pos (by omega)]
     · rw [if_neg e, if_neg (by omega)]
   · have et : (frameOf x ++ framesOf L).take m = (frameOf x).take m := by
       rw [List.take_append_of_le_length (by omega)]
     have hd := decF_cut x m hx1 (by omega)
     rw [et, wholes, if_neg hf]
     by_cases h0 : m = 0
     · subst h0
       rfl
     · have hne : (frameOf x).take m ≠ [] := fun e => by
         have := congrArg List.length e
         rw [List.length_take, List.length_nil] at this
         omega
       rw [wholeF_stop hne (by rw [hd]; decide), hd]
       simp only [List.take_zero, Prod.mk.injEq, true_and]
       rw [if_neg (by omega)]

def sizeF (n : Int) : Nat := if 0 <= n ∧ n <= 1048576 then (Lib.uvarint n.toNat).length + 4 + n.toNat else 0

theorem wholes_at : ∀ (L : List (List UInt8)) (m k : Nat), k <= L.length -> (framesOf (L.take k)).length <= m -> (k = L.length ∨ m < (framesOf (L.take (k + 1))).length) -> wholes L m = (k, (framesOf (L.take k)).length)
 | [], m, k, hk, _, _ => by
   have e : k = 0 := by simpa using hk
   subst e
   rfl
 | x :: L, m, 0, _, h1, h2 => by
   have e : (framesOf ((x :: L).take 1)).length = (frameOf x).length := by simp [framesOf]
   rcases h2 with h2 | h2
   · simp at h2
   · rw [e] at h2
     rw [wholes, if_neg (by omega)]
     rfl
 | x :: L, m, k + 1, hk, h1, h2 => by
   have ef : ∀ j, (framesOf ((x :: L).take (j + 1))).length = (frameOf x).length + (framesOf (L.take j)).length := by
     intro j
     simp [framesOf]
   rw [ef] at h1 h2
   have ih := wholes_at L (m - (frameOf x).length) k (by simpa using hk) (by omega) (by
     rcases h2 with h2 | h2
     · left; simpa using h2
     · right; omega)
   rw [wholes, if_pos (by omega), ih, ef]
   simp
   omega

theorem framesOf_app (A B : List (List UInt8)) : framesOf (A ++ B) = framesOf A ++ framesOf B := by
 unfold framesOf
 rw [List.flatMap_append]

theorem framesOf_cons (x : List UInt8) (B : List (List UInt8)) : framesOf (x :: B) = frameOf x ++ framesOf B := by
 unfold framesOf
 rw [List.flatMap_cons]

theorem frameOf_pos (x : List UInt8) : 5 <= (frameOf x).length := by
 rw [frameOf_length]
 have := Lib.uvarint_pos x.length
 omega

theorem wholeF_frames (L : List (List UInt8)) (h : ∀ x ∈ L, x.length <= 1048576) : wholeF (framesOf L) = (L, (framesOf L).length, 0) := by
 have e := wholeF_cut L (framesOf L).length h (Nat.le_refl _)
 have hw := wholes_at L (framesOf L).length L.length (Nat.le_refl _) (by rw [List.take_length]; exact Nat.le_refl _) (.inl rfl)
 rw [List.take_length] at hw e
 rw [e, hw]
 simp

theorem wholeF_all : ∀ (n : Nat) (b : List UInt8), b.length <= n -> (wholeF b).2.2 = 0 -> framesOf (wholeF b).1 = b ∧ ∀ x ∈ (wholeF b).1, x.length <= 1048576
 | 0, b, hn, _ => by
   have e : b = [] := List.eq_nil_of_length_eq_zero (by omega)
   subst e
   rw [wholeF_nil]
   exact ⟨rfl, by simp⟩
 | n + 1, b, hn, h => by
   by_cases e : b = []
   · subst e
     rw [wholeF_nil]
     exact ⟨rfl, by simp⟩
   by_cases hd : (decF b).2.2 = 0
   · obtain ⟨d1, d2, d3, d4⟩ := decF_ok hd
     have h5 := decF_five hd
     rw [wholeF_step e hd] at h ⊢
     obtain ⟨i1, i2⟩ := wholeF_all n (b.drop (decF b).2.1) (by rw [List.length_drop]; omega) h
     refine ⟨?_, fun x hx => ?_⟩
     · show framesOf ((decF b).1 :: (wholeF (b.drop (decF b).2.1)).1) = b
       rw [framesOf_cons, i1, <- d4, List.take_append_drop]
     · rcases List.mem_cons.1 hx with hx | hx
       · rw [hx]; exact d1
       · exact i2 x hx
   · rw [wholeF_stop e hd] at h
     exact absurd h hd

structure Ent where
 proc : Int
 seq : Int
 resp : Int

def zeroE : Ent := ⟨0, 0, 0⟩

theorem Ent.ext' {a b : Ent} (h1 : a.proc = b.proc) (h2 : a.seq = b.seq) (h3 : a.resp = b.resp) : a = b := by
 cases a
 cases b
 simp_all

instance : DecidableEq Ent := fun a b =>
 if h : a.proc = b.proc ∧ a.seq = b.seq ∧ a.resp = b.resp then .isTrue (Ent.ext' h.1 h.2.1 h.2.2)
 else .isFalse (fun e => h (by rw [e]; exact ⟨rfl, rfl, rfl⟩))

structure Snap where
 idx : Int
 st : St
 tab : List Ent

def zeroN : Snap := ⟨0, zeroS, []⟩

def EntOk (e : Ent) : Prop := 0 <= e.proc ∧ e.proc <= 64 ∧ 0 <= e.seq ∧ e.seq < 4611686018427387904 ∧ -1125899906842624 <= e.resp ∧ e.resp <= 1125899906842624

instance (e : Ent) : Decidable (EntOk e) := by unfold EntOk; infer_instance

def TabTo (t : List Ent) (k : Nat) : Prop := ∀ i, i < k -> EntOk (t.getD i zeroE) ∧ (0 < i -> (t.getD (i - 1) zeroE).proc < (t.getD i zeroE).proc)

instance (t : List Ent) (k : Nat) : Decidable (TabTo t k) := by unfold TabTo; infer_instance

def TabOk (t : List Ent) : Prop := TabTo t t.length

instance (t : List Ent) : Decidable (TabOk t) := by unfold TabOk; infer_instance

theorem TabTo.zero (t : List Ent) : TabTo t 0 := fun _ hi => absurd hi (Nat.not_lt_zero _)

theorem TabTo.next {t : List Ent} {k : Nat} : TabTo t (k + 1) ↔ TabTo t k ∧ EntOk (t.getD k zeroE) ∧ (0 < k -> (t.getD (k - 1) zeroE).proc < (t.getD k zeroE).proc) := by
 constructor
 · intro h
   exact ⟨fun i hi => h i (by omega), (h k (by omega)).1, (h k (by omega)).2⟩
 · rintro ⟨h1, h2, h3⟩ i hi
   by_cases e : i = k
   · subst e
     exact ⟨h2, h3⟩
   · exact h1 i (by omega)

theorem TabTo.mono {t : List Ent} {k j : Nat} (h : TabTo t k) (hj : j <= k) : TabTo t j := fun i hi => h i (by omega)

theorem TabOk.mem {t : List Ent} (h : TabOk t) : ∀ e ∈ t, EntOk e := by
 intro e he
 obtain ⟨i, hi, rfl⟩ := List.getElem_of_mem he
 have := (h i hi).1
 simpa [List.getD, hi] using this

def MayN (s : Snap) : Prop := (0 <= s.idx ∧ s.idx < 4611686018427387904) ∧ MayS s.st ∧ TabOk s.tab

instance (s : Snap) : Decidable (MayN s) := by unfold MayN; infer_instance

def entL (e : Ent) : List UInt8 := Lib.uvarint e.proc.toNat ++ (Lib.uvarint e.seq.toNat ++ Lib.uvarint (Lib.zigzag e.resp))

def entsL (t : List Ent) : List UInt8 := t.flatMap entL

def tabL (t : List Ent) : List UInt8 := Lib.uvarint t.length ++ entsL t

def wholeN (s : Snap) : List UInt8 := Lib.uvarint (encS s.st).length ++ (encS s.st ++ tabL s.tab)

def maniN (i : Nat) (w : List UInt8) : List UInt8 := 115 :: (Lib.uvarint 3 ++ (Lib.uvarint i ++ (Lib.uvarint w.length ++ Lib.leBytes 4 (crcMore 0 w))))

def pieces (l : List UInt8) : List (List UInt8) := if l = [] then [] else l.take 64 :: pieces (l.drop 64)
termination_by l.length
decreasing_by
 rename_i h
 have h1 : l.length ≠ 0 := by simpa using h
 rw [List.length_drop]
 omega

def partsN (s : Snap) : List (List UInt8) := maniN s.idx.toNat (wholeN s) :: pieces (wholeN s)

def encN (s : Snap) : List UInt8 := framesOf (partsN s)

theorem pieces_nil : pieces [] = [] := by rw [pieces, if_pos rfl]

theorem pieces_cons {l : List UInt8} (h : l ≠ []) : pieces l = l.take 64 :: pieces (l.drop 64) := by rw [pieces, if_neg h]

theorem pieces_flat : ∀ (n : Nat) (l : List UInt8), l.length <= n -> (pieces l).flatten = l
 | 0, l, h => by
   have e : l = [] := List.eq_nil_of_length_eq_zero (by omega)
   rw [e, pieces_nil]
   rfl
 | n + 1, l, h => by
   by_cases e : l = []
   · rw [e, pieces_nil]
     rfl
   · have h1 : l.length ≠ 0 := by simpa using e
     rw [pieces_cons e, List.flatten_cons, pieces_flat n (l.drop 64) (by rw [List.length_drop]; omega), List.take_append_drop]

def CutOk : List (List UInt8) -> Prop
 | [] => True
 | [x] => 1 <= x.length ∧ x.length <= 64
 | x :: y :: t => x.length = 64 ∧ CutOk (y :: t)

theorem cutOk_pieces : ∀ (L : List (List UInt8)), CutOk L -> pieces L.flatten = L
 | [], _ => by rw [List.flatten_nil, pieces_nil]
 | [x], h => by
   obtain ⟨h1, h2⟩ := h
   have e : x ≠ [] := fun e => by rw [e] at h1; simp at h1
   have ef : [x].flatten = x := by simp
   rw [ef, pieces_cons e, List.take_of_length_le h2, List.drop_eq_nil_of_le h2, pieces_nil]
 | x :: y :: t, h => by
   obtain ⟨h1, h2⟩ := h
   have e : (x :: y :: t).flatten ≠ [] := fun e => by
     have := congrArg List.length e
     rw [List.flatten_cons, List.length_append, List.length_nil] at this
     omega
   have e1 : ((x :: y :: t).flatten).take 64 = x := by rw [List.flatten_cons, <- h1, List.take_left]
   have e2 : ((x :: y :: t).flatten).drop 64 = (y :: t).flatten := by rw [List.flatten_cons, <- h1, List.drop_left]
   rw [pieces_cons e, e1, e2, cutOk_pieces (y :: t) h2]

theorem pieces_cutOk : ∀ (n : Nat) (l : List UInt8), l.length <= n -> CutOk (pieces l)
 | 0, l, h => by
   have e : l = [] := List.eq_nil_of_length_eq_zero (by omega)
   rw [e, pieces_nil]
   trivial
 | n + 1, l, h => by
   by_cases e : l = []
   · rw [e, pieces_nil]
     trivial
   · have h1 : l.length ≠ 0 := by simpa using e
     rw [pieces_cons e]
     have ih := pieces_cutOk n (l.drop 64) (by rw [List.length_drop]; omega)
     by_cases e2 : l.drop 64 = []
     · rw [e2, pieces_nil]
       have h3 : (l.take 64).length = min 64 l.length := List.length_take
       exact ⟨by omega, by omega⟩
     · have h2 : (l.drop 64).length ≠ 0 := fun e => e2 (List.eq_nil_of_length_eq_zero e)
       rw [List.length_drop] at h2
       rw [pieces_cons e2] at ih ⊢
       exact ⟨by rw [List.length_take]; omega, ih⟩

def readE : Nat -> List UInt8 -> Option (List Ent × List UInt8)
 | 0, b => some ([], b)
 | n + 1, b =>
   let i := (dec62 b).2
   let j := (dec62 (b.drop i)).2
   let k := (dec64 (b.drop (i + j))).2
   if i = 0 ∨ j = 0 ∨ k = 0 then none
   else (readE n (b.drop (i + j + k))).map (fun r => (⟨(dec62 b).1, (dec62 (b.drop i)).1, zag (dec64 (b.drop (i + j))).1⟩ :: r.1, r.2))

def tableL (b : List UInt8) : Option (List Ent) :=
 if (dec62 b).2 = 0 ∨ b.length < (dec62 b).1 then none
 else match readE (dec62 b).1 (b.drop (dec62 b).2) with
   | some (t, []) => some t
   | _ => none

def readN (w : List UInt8) : Snap × Int :=
 if (dec62 w).2 = 0 ∨ w.length < (dec62 w).2 + (dec62 w).1 then (zeroN, 3)
 else if (decS ((w.drop (dec62 w).2).take (dec62 w).1)).2 = 3 then (zeroN, 3)
 else match tableL (w.drop ((dec62 w).2 + (dec62 w).1)) with
   | none => (zeroN, 3)
   | some t => (⟨0, (decS ((w.drop (dec62 w).2).take (dec62 w).1)).1, t⟩, (decS ((w.drop (dec62 w).2).take (dec62 w).1)).2)

def maniL (d : List UInt8) : Nat × Nat × Nat × Int :=
 if d.length < 1 ∨ (d.getD 0 0).toNat ≠ 115 then (0, 0, 0, 3)
 else
   let i := (dec62 (d.drop 1)).2
   let j := (dec62 (d.drop (1 + i))).2
   let k := (dec62 (d.drop (1 + i + j))).2
   if i = 0 ∨ j = 0 ∨ k = 0 then (0, 0, 0, 3)
   else if (dec62 (d.drop 1)).1 ≠ 3 then (0, 0, 0, 6)
   else if (d.drop (1 + i + j + k)).length ≠ 4 then (0, 0, 0, 3)
   else ((dec62 (d.drop (1 + i))).1, (dec62 (d.drop (1 + i + j))).1, Lib.leNat (d.drop (1 + i + j + k)), 0)

instance cutOk_dec : ∀ L : List (List UInt8), Decidable (CutOk L)
 | [] => .isTrue trivial
 | [_] => by unfold CutOk; infer_instance
 | _ :: y :: t => by
   unfold CutOk
   exact @instDecidableAnd _ _ _ (cutOk_dec (y :: t))

def partsD (L : List (List UInt8)) : Snap × Int :=
 match L with
 | [] => (zeroN, 16)
 | d :: P =>
   if (maniL d).2.2.2 ≠ 0 then (zeroN, (maniL d).2.2.2)
   else if P.flatten.length ≠ (maniL d).2.1 then (zeroN, 16)
   else if ¬ CutOk P then (zeroN, 3)
   else if crcMore 0 P.flatten ≠ (maniL d).2.2.1 then (zeroN, 4)
   else if (readN P.flatten).2 ≠ 0 then (zeroN, (readN P.flatten).2)
   else if MayN ⟨((maniL d).1 : Nat), (readN P.flatten).1.st, (readN P.flatten).1.tab⟩ then (⟨((maniL d).1 : Nat), (readN P.flatten).1.st, (readN P.flatten).1.tab⟩, 0)
   else (zeroN, 1)

def decN (b : List UInt8) : Snap × Int :=
 if (wholeF b).2.2 ≠ 0 then (zeroN, ((wholeF b).2.2 : Nat)) else partsD (wholeF b).1

def noteG (e : Ent) : Bool -> List Ent -> List Ent
 | d, [] => if d = true then [] else [e]
 | d, x :: t => (if d = false ∧ e.proc < x.proc then [e] else []) ++ ((if x.proc = e.proc then [] else [x]) ++ noteG e (d || decide (e.proc < x.proc)) t)

def noteL (t : List Ent) (e : Ent) : List Ent := noteG e false t

theorem noteG_done (e : Ent) : ∀ t : List Ent, noteG e true t = t.filter (fun x => decide (x.proc ≠ e.proc))
 | [] => rfl
 | x :: t => by
   rw [noteG, if_neg (by simp), Bool.true_or, noteG_done e t, List.filter_cons]
   by_cases h : x.proc = e.proc <;> simp [h]

theorem noteG_mem (e : Ent) : ∀ (t : List Ent) (d : Bool) (x : Ent), x ∈ noteG e d t ↔ (d = false ∧ x = e) ∨ (x ∈ t ∧ x.proc ≠ e.proc)
 | [], d, x => by cases d <;> simp [noteG]
 | y :: t, d, x => by
   rw [noteG, List.mem_append, List.mem_append, noteG_mem e t, List.mem_cons]
   by_cases h1 : d = false ∧ e.proc < y.proc
   · have hy : y.proc ≠ e.proc := by omega
     rw [if_pos h1, if_neg hy, h1.1]
     have h2 : decide (e.proc < y.proc) = true := decide_eq_true h1.2
     rw [h2]
     simp only [List.mem_singleton, Bool.or_true, Bool.true_eq_false, false_and, false_or, true_and]
     constructor
     · rintro (h | h | ⟨h, h'⟩)
       · exact .inl h
       · exact .inr ⟨.inl h, by rw [h]; exact hy⟩
       · exact .inr ⟨.inr h, h'⟩
     · rintro (h | ⟨h | h, h'⟩)
       · exact .inl h
       · exact .inr (.inl h)
       · exact .inr (.inr ⟨h, h'⟩)
   · rw [if_neg h1]
     have hd : (d || decide (e.proc < y.proc)) = false ↔ d = false := by
       constructor
       · intro h
         cases d
         · rfl
         · exact h
       · intro h
         rw [h, Bool.false_or]
         exact decide_eq_false (fun h2 => h1 ⟨h, h2⟩)
     rw [hd]
     by_cases hy : y.proc = e.proc
     · rw [if_pos hy]
       simp only [List.not_mem_nil, false_or]
       constructor
       · rintro (h | ⟨h, h'⟩)
         · exact .inl h
         · exact .inr ⟨.inr h, h'⟩
       · rintro (h | ⟨h | h, h'⟩)
         · exact .inl h
         · exact absurd (by rw [h]; exact hy) h'
         · exact .inr ⟨h, h'⟩
     · rw [if_neg hy]
       simp only [List.not_mem_nil, false_or, List.mem_singleton]
       constructor
       · rintro (h | h | ⟨h, h'⟩)
         · exact .inr ⟨.inl h, by rw [h]; exact hy⟩
         · exact .inl h
         · exact .inr ⟨.inr h, h'⟩
       · rintro (h | ⟨h | h, h'⟩)
         · exact .inr (.inl h)
         · exact .inl h
         · exact .inr (.inr ⟨h, h'⟩)

theorem noteL_mem (t : List Ent) (e x : Ent) : x ∈ noteL t e ↔ x = e ∨ (x ∈ t ∧ x.proc ≠ e.proc) := by
 unfold noteL
 rw [noteG_mem]
 simp

theorem noteG_len (e : Ent) : ∀ (t : List Ent) (d : Bool), (noteG e d t).length <= t.length + (if d = true then 0 else 1)
 | [], d => by cases d <;> simp [noteG]
 | y :: t, d => by
   have ih := noteG_len e t (d || decide (e.proc < y.proc))
   rw [noteG, List.length_append, List.length_append, List.length_cons]
   by_cases h1 : d = false ∧ e.proc < y.proc
   · have h2 : decide (e.proc < y.proc) = true := decide_eq_true h1.2
     rw [h1.1, h2] at ih ⊢
     rw [if_pos ⟨rfl, h1.2⟩]
     simp only [Bool.or_true, if_true] at ih
     split <;> simp <;> omega
   · rw [if_neg h1]
     have hd : (if (d || decide (e.proc < y.proc)) = true then (0 : Nat) else 1) <= (if d = true then 0 else 1) := by
       cases d
       · have : decide (e.proc < y.proc) = false := decide_eq_false (fun h => h1 ⟨rfl, h⟩)
         rw [this]
         exact Nat.le_refl _
       · simp
     split <;> simp <;> omega

theorem noteL_len (t : List Ent) (e : Ent) : (noteL t e).length <= t.length + 1 := noteG_len e t false

def Rises (t : List Ent) : Prop := t.Pairwise (fun a b => a.proc < b.proc)

theorem noteL_rises {e : Ent} : ∀ {t : List Ent}, Rises t -> Rises (noteL t e)
 | [], _ => by simp [noteL, noteG, Rises]
 | y :: t, h => by
   unfold Rises at h
   rw [List.pairwise_cons] at h
   obtain ⟨h1, h2⟩ := h
   unfold noteL Rises
   rw [noteG, Bool.false_or]
   by_cases hlt : e.proc < y.proc
   · have hy : y.proc ≠ e.proc := by omega
     rw [if_pos ⟨rfl, hlt⟩, if_neg hy, decide_eq_true hlt, noteG_done]
     show List.Pairwise _ (e :: y :: _)
     rw [List.pairwise_cons, List.pairwise_cons]
     refine ⟨fun a ha => ?_, fun a ha => h1 a ((List.mem_filter.1 ha).1), h2.filter _⟩
     rcases List.mem_cons.1 ha with ha | ha
     · rw [ha]; exact hlt
     · have := h1 a ((List.mem_filter.1 ha).1)
       omega
   · rw [if_neg (fun h => hlt h.2), decide_eq_false hlt, List.nil_append]
     have ih : Rises (noteL t e) := noteL_rises h2
     by_cases hy : y.proc = e.proc
     · rw [if_pos hy, List.nil_append]
       exact ih
     · rw [if_neg hy]
       show List.Pairwise _ (y :: noteL t e)
       rw [List.pairwise_cons]
       refine ⟨fun a ha => ?_, ih⟩
       rcases (noteL_mem t e a).1 ha with ha | ⟨ha, _⟩
       · rw [ha]; omega
       · exact h1 a ha

theorem TabTo.lt {t : List Ent} {k : Nat} (h : TabTo t k) : ∀ j i, i < j -> j < k -> (t.getD i zeroE).proc < (t.getD j zeroE).proc
 | 0, i, hi, _ => absurd hi (Nat.not_lt_zero _)
 | j + 1, i, hi, hj => by
   have h1 := (h (j + 1) hj).2 (by omega)
   rw [Nat.add_sub_cancel] at h1
   by_cases e : i = j
   · rw [e]; exact h1
   · have h2 := h.lt j i (by omega) (by omega)
     omega

theorem TabOk.rises {t : List Ent} (h : TabOk t) : Rises t := by
 unfold Rises
 rw [List.pairwise_iff_getElem]
 intro i j hi hj hij
 have := h.lt j i hij hj
 simpa [List.getD, hi, hj] using this

def placeP (key : Int) : List Int -> Nat
 | a :: _ :: r => if key <= a then 0 else placeP key r + 2
 | _ => 0

def hitP (key : Int) (l : List Int) : Bool := (getP key l).isSome

theorem placeP_le (key : Int) : ∀ (l : List Int), l.length % 2 = 0 -> placeP key l <= l.length ∧ placeP key l % 2 = 0
 | [], _ => ⟨Nat.le_refl _, rfl⟩
 | [_], h => by simp at h
 | a :: b :: r, h => by
   have ih := placeP_le key r (by simp at h; omega)
   unfold placeP
   split
   · simp
   · simp
     omega

theorem placeP_drop (key : Int) : ∀ (l : List Int) (k : Nat), l.length % 2 = 0 -> k % 2 = 0 -> k <= l.length -> (∀ j, j < k -> j % 2 = 0 -> l.getD j 0 < key) -> placeP key l = k + placeP key (l.drop k)
 | [], k, _, _, hk, _ => by
   have : k = 0 := by simpa using hk
   subst this
   rfl
 | [_], _, h, _, _, _ => by simp at h
 | a :: b :: r, k, h, hk2, hk, hall => by
   by_cases h0 : k = 0
   · subst h0
     simp
   · obtain ⟨j, rfl⟩ : ∃ j, k = j + 2 := ⟨k - 2, by omega⟩
     have h1 := hall 0 (by omega) rfl
     have h1' : a < key := h1
     have ih := placeP_drop key r j (by simp at h; omega) (by omega) (by simp at hk; omega) (fun i hi hi2 => by
       have := hall (i + 2) (by omega) (by omega)
       exact this)
     conv => lhs; unfold placeP
     rw [if_neg (by omega), ih]
     show j + placeP key (r.drop j) + 2 = j + 2 + placeP key (r.drop j)
     omega

theorem placeP_stop (key : Int) (l : List Int) (k : Nat) (hk : k + 1 < l.length) (h : key <= l.getD k 0) : placeP key (l.drop k) = 0 := by
 rw [drop_pair l k hk, placeP, if_pos h]

theorem placeP_hit (key least : Int) : ∀ (l : List Int) (lo : Int), Pairs least lo l -> hitP key l = decide (placeP key l < l.length ∧ l.getD (placeP key l) 0 = key) ∧ (hitP key l = true -> getP key l = some (l.getD (placeP key l + 1) 0) ∧ placeP key l + 1 < l.length)
 | [], lo, _ => by simp [hitP, getP, placeP]
 | [_], lo, h => by simp [Pairs] at h
 | a :: b :: r, lo, h => by
   have hg := getP_above (least := least) (key := key) (l := r) (lo := a)
   unfold Pairs at h
   have ih := placeP_hit key least r a h.2.2.2.2
   by_cases h1 : key <= a
   · have e : placeP key (a :: b :: r) = 0 := by unfold placeP; rw [if_pos h1]
     rw [e]
     by_cases h2 : a = key
     · have e2 : getP key (a :: b :: r) = some b := by rw [getP_cons, if_pos h2]
       unfold hitP
       rw [e2]
       simp [h2]
     · have e2 : getP key (a :: b :: r) = none := by rw [getP_cons, if_neg h2, hg h.2.2.2.2 h1]
       unfold hitP
       rw [e2]
       simp [h2]
   · have e : placeP key (a :: b :: r) = placeP key r + 2 := by rw [placeP, if_neg h1]
     have e2 : getP key (a :: b :: r) = getP key r := by rw [getP_cons, if_neg (by omega)]
     have e3 : hitP key (a :: b :: r) = hitP key r := by unfold hitP; rw [e2]
     rw [e, e2, e3]
     refine ⟨?_, fun hh => ?_⟩
     · rw [ih.1]
       have e4 : (a :: b :: r).getD (placeP key r + 2) 0 = r.getD (placeP key r) 0 := rfl
       rw [e4]
       apply decide_eq_decide.2
       simp
     · have := ih.2 hh
       refine ⟨this.1, ?_⟩
       simp
       omega

theorem withF_insert (key n least : Int) : ∀ (l : List Int) (lo : Int), Pairs least lo l -> hitP key l = false -> withF key n false l = l.take (placeP key l) ++ ([key, n] ++ l.drop (placeP key l))
 | [], lo, _, _ => by simp [withF, placeP]
 | [_], lo, h, _ => by simp [Pairs] at h
 | a :: b :: r, lo, h, hm => by
   rw [withF_cons key n least a b r lo h]
   unfold Pairs at h
   have ih := withF_insert key n least r a h.2.2.2.2
   unfold hitP at hm
   rw [getP_cons] at hm
   by_cases h2 : a = key
   · rw [if_pos h2] at hm
     simp at hm
   · rw [if_neg h2] at hm
     by_cases h1 : key < a
     · rw [if_pos h1, placeP, if_pos (by omega)]
       rfl
     · rw [if_neg h1, if_neg (by omega), ih hm, placeP, if_neg (by omega)]
       rfl

theorem withF_set (key n least : Int) : ∀ (l : List Int) (lo : Int), Pairs least lo l -> hitP key l = true -> withF key n false l = l.set (placeP key l + 1) n
 | [], lo, _, h => by simp [hitP, getP] at h
 | [_], lo, h, _ => by simp [Pairs] at h
 | a :: b :: r, lo, h, hm => by
   rw [withF_cons key n least a b r lo h]
   have hg := getP_above (least := least) (key := key) (l := r) (lo := a)
   unfold Pairs at h
   have ih := withF_set key n least r a h.2.2.2.2
   unfold hitP at hm
   rw [getP_cons] at hm
   by_cases h2 : a = key
   · rw [if_neg (by omega), if_pos h2.symm, placeP, if_pos (by omega), h2]
     rfl
   · rw [if_neg h2] at hm
     by_cases h1 : key < a
     · rw [hg h.2.2.2.2 (by omega)] at hm
       simp at hm
     · rw [if_neg h1, if_neg (by omega), ih hm, placeP, if_neg (by omega)]
       rfl

theorem withoutF_above {least key : Int} : ∀ {l : List Int} {lo : Int}, Pairs least lo l -> key <= lo -> withoutF key l = l
 | [], _, _, _ => rfl
 | [_], _, h, _ => by simp [Pairs] at h
 | a :: b :: r, lo, h, hk => by
   unfold Pairs at h
   rw [withoutF_cons, if_pos (by omega), withoutF_above h.2.2.2.2 (by omega)]

theorem withoutF_not (key least : Int) : ∀ (l : List Int) (lo : Int), Pairs least lo l -> hitP key l = false -> withoutF key l = l
 | [], lo, _, _ => rfl
 | [_], lo, h, _ => by simp [Pairs] at h
 | a :: b :: r, lo, h, hm => by
   unfold Pairs at h
   have ih := withoutF_not key least r a h.2.2.2.2
   unfold hitP at hm
   rw [getP_cons] at hm
   by_cases h2 : a = key
   · rw [if_pos h2] at hm
     simp at hm
   · rw [if_neg h2] at hm
     rw [withoutF_cons, if_pos h2, ih hm]

theorem withoutF_cut (key least : Int) : ∀ (l : List Int) (lo : Int), Pairs least lo l -> hitP key l = true -> withoutF key l = l.take (placeP key l) ++ l.drop (placeP key l + 2)
 | [], lo, _, h => by simp [hitP, getP] at h
 | [_], lo, h, _ => by simp [Pairs] at h
 | a :: b :: r, lo, h, hm => by
   have hg := getP_above (least := least) (key := key) (l := r) (lo := a)
   unfold Pairs at h
   have ih := withoutF_cut key least r a h.2.2.2.2
   unfold hitP at hm
   rw [getP_cons] at hm
   rw [withoutF_cons]
   by_cases h2 : a = key
   · rw [if_neg (by omega), placeP, if_pos (by omega), withoutF_above h.2.2.2.2 (by omega)]
     rfl
   · rw [if_neg h2] at hm
     rw [if_pos h2]
     by_cases h1 : key <= a
     · rw [hg h.2.2.2.2 h1] at hm
       simp at hm
     · rw [ih hm, placeP, if_neg h1]
       rfl

def storeO (s : St) (o : Opn) : St × Int :=
 if o.a < 0 ∨ 255 < o.a then (s, -1) else
 if o.code ≠ 7 ∧ o.code ≠ 6 ∧ o.code ≠ 5 then (s, 0) else
 if o.code = 6 then (⟨s.kind, withoutF o.a s.L, s.shut, s.eng⟩, hadF o.a s.L) else
 if o.code = 5 then (if findF o.a 0 s.L < 0 ∧ s.L.length = 128 then (s, -2) else (⟨s.kind, withF o.a (cutZ o.b) false s.L, s.shut, s.eng⟩, hadF o.a s.L)) else
 (s, hadF o.a s.L)

def stepO (s : St) (o : Opn) : St × Int :=
 if ¬ MayS s then (s, 0) else
 if s.shut = true then (s, -1125899906842624) else
 if o.code = 10 then (⟨s.kind, s.L, true, if 0 <= o.a ∧ o.a <= 2 then o.a else s.eng⟩, 0) else
 if s.kind <= 1 then oneS s o else if s.kind <= 3 then listS s o else if s.kind = 4 then storeO s o else ledgerS s o

theorem storeO_state (s : St) (o : Opn) : (storeO s o).1 = (storeS s o).1 := by
 unfold storeO storeS
 by_cases h1 : o.a < 0 ∨ 255 < o.a
 · rw [if_pos h1]
   split
   · rfl
   · first | rfl | (rw [if_pos h1])
 · rw [if_neg h1, if_neg h1]

theorem stepO_state (s : St) (o : Opn) : (stepO s o).1 = (stepS s o).1 := by
 unfold stepO stepS
 split
 · rfl
 split
 · rfl
 split
 · rfl
 split
 · rfl
 split
 · rfl
 split
 · exact storeO_state s o
 · rfl

theorem stepO_eq (s : St) (o : Opn) (h : s.kind ≠ 4 ∨ s.shut = true ∨ o.code = 10 ∨ o.code = 5 ∨ o.code = 6 ∨ o.code = 7 ∨ (0 <= o.a ∧ o.a <= 255)) : stepO s o = stepS s o := by
 unfold stepO stepS
 split
 · rfl
 split
 · rfl
 split
 · rfl
 split
 · rfl
 split
 · rfl
 split
 · rename_i hm hs hc _ _ hk
   unfold storeO storeS
   rcases h with h | h | h | h | h | h | h
   · exact absurd hk h
   · exact absurd h hs
   · exact absurd h hc
   · rw [if_neg (show ¬ (o.code ≠ 7 ∧ o.code ≠ 6 ∧ o.code ≠ 5) by omega), if_neg (show ¬ (o.code ≠ 7 ∧ o.code ≠ 6 ∧ o.code ≠ 5) by omega)]
   · rw [if_neg (show ¬ (o.code ≠ 7 ∧ o.code ≠ 6 ∧ o.code ≠ 5) by omega), if_neg (show ¬ (o.code ≠ 7 ∧ o.code ≠ 6 ∧ o.code ≠ 5) by omega)]
   · rw [if_neg (show ¬ (o.code ≠ 7 ∧ o.code ≠ 6 ∧ o.code ≠ 5) by omega), if_neg (show ¬ (o.code ≠ 7 ∧ o.code ≠ 6 ∧ o.code ≠ 5) by omega)]
   · rw [if_neg (show ¬ (o.a < 0 ∨ 255 < o.a) by omega), if_neg (show ¬ (o.a < 0 ∨ 255 < o.a) by omega)]
 · rfl

theorem stepO_not {s : St} (h : ¬ MayS s) (o : Opn) : stepO s o = (s, 0) := by
 unfold stepO
 rw [if_pos h]

theorem stepO_shut {s : St} (h : MayS s) (hs : s.shut = true) (o : Opn) : stepO s o = (s, -1125899906842624) := by
 unfold stepO
 rw [if_neg (fun e => e h), if_pos hs]

theorem stepO_may {s : St} (h : MayS s) (o : Opn) : MayS (stepO s o).1 := by rw [stepO_state]; exact step_may h o
theorem stepO_kind (s : St) (o : Opn) : (stepO s o).1.kind = s.kind := by rw [stepO_state]; exact step_kind s o
theorem stepO_shut' {s : St} (h : MayS s) (o : Opn) : (stepO s o).1.shut = (s.shut || decide (o.code = 10)) := by rw [stepO_state]; exact step_shut' h o

def foldO : St -> List Opn -> St × List Int
 | s, [] => (s, [])
 | s, o :: r => ((foldO (stepO s o).1 r).1, (stepO s o).2 :: (foldO (stepO s o).1 r).2)

def nextN (s : Snap) (r : Rec) : Snap := ⟨s.idx + 1, (stepO s.st r.op).1, noteL s.tab ⟨r.proc, r.seq, (stepO s.st r.op).2⟩⟩

def takeN : Snap -> List Rec -> Snap × Int
 | s, [] => (s, 0)
 | s, r :: l => if r.idx ≠ s.idx then (zeroN, 15) else if ¬ FitsR r then (zeroN, 1) else takeN (nextN s r) l

theorem takeN_state : ∀ (l : List Rec) (s : Snap), (takeN s l).2 = 0 -> (takeN s l).1.st = (foldO s.st (l.map (fun r => r.op))).1 ∧ (takeN s l).1.idx = s.idx + l.length
 | [], s, _ => by simp [takeN, foldO]
 | r :: l, s, h => by
   rw [takeN] at h ⊢
   by_cases h1 : r.idx ≠ s.idx
   · rw [if_pos h1] at h
     exact absurd h (by decide)
   rw [if_neg h1] at h ⊢
   by_cases h2 : ¬ FitsR r
   · rw [if_pos h2] at h
     exact absurd h (by decide)
   rw [if_neg h2] at h ⊢
   obtain ⟨i1, i2⟩ := takeN_state l (nextN s r) h
   rw [i1, i2, List.map_cons, foldO]
   refine ⟨rfl, ?_⟩
   show s.idx + 1 + _ = _
   rw [List.length_cons]
   omega

def lastSeq (l : List Rec) (p : Int) : Int := l.foldl (fun a r => if r.proc = p then r.seq else a) 0

theorem lastSeq_snoc (l : List Rec) (r : Rec) (p : Int) : lastSeq (l ++ [r]) p = if r.proc = p then r.seq else lastSeq l p := by
 unfold lastSeq
 rw [List.foldl_append]
 rfl

theorem lastSeq_bd {l : List Rec} (p : Int) : (∀ r ∈ l, FitsR r) -> 0 <= lastSeq l p ∧ lastSeq l p < 4611686018427387904 := by
 unfold lastSeq
 suffices h : ∀ (l : List Rec) (a : Int), (∀ r ∈ l, FitsR r) -> 0 <= a -> a < 4611686018427387904 -> 0 <= l.foldl (fun a r => if r.proc = p then r.seq else a) a ∧ l.foldl (fun a r => if r.proc = p then r.seq else a) a < 4611686018427387904 by
   exact fun hl => h l 0 hl (by decide) (by decide)
 intro l
 induction l with
 | nil => intro a _ h0 h1; exact ⟨h0, h1⟩
 | cons r t ih =>
   intro a hf h0 h1
   rw [List.foldl_cons]
   have hr := hf r (by simp)
   obtain ⟨_, _, _, hs0, hs1, _⟩ := hr
   by_cases hp : r.proc = p
   · rw [if_pos hp]
     exact ih _ (fun s hs => hf s (by simp [hs])) hs0 hs1
   · rw [if_neg hp]
     exact ih _ (fun s hs => hf s (by simp [hs])) h0 h1

def encOne (pre : List Rec) (r : Rec) : List UInt8 :=
 Lib.uvarint r.proc.toNat ++ (Lib.uvarint (Lib.zigzag (r.seq - lastSeq pre r.proc)) ++ (putOpL r.op ++ Lib.uvarint (Lib.zigzag r.resp)))

def encRs (pre : List Rec) : List Rec -> List UInt8
 | [] => []
 | r :: t => encOne pre r ++ encRs (pre ++ [r]) t

def encB (l : List Rec) : List UInt8 := Lib.uvarint (l.headD zeroR).idx.toNat ++ (Lib.uvarint l.length ++ encRs [] l)

def chainR : Int -> List Rec -> Prop
 | _, [] => True
 | i, r :: t => r.idx = i ∧ chainR (i + 1) t

instance chainR_dec : ∀ (i : Int) (l : List Rec), Decidable (chainR i l)
 | _, [] => .isTrue trivial
 | i, r :: t => by
   unfold chainR
   exact @instDecidableAnd _ _ _ (chainR_dec (i + 1) t)

def FitsB (l : List Rec) : Prop := 1 <= l.length ∧ l.length <= 256 ∧ (∀ r ∈ l, FitsR r) ∧ chainR (l.headD zeroR).idx l

instance (l : List Rec) : Decidable (FitsB l) := by unfold FitsB; infer_instance

theorem encRs_app : ∀ (a b pre : List Rec), encRs pre (a ++ b) = encRs pre a ++ encRs (pre ++ a) b
 | [], b, pre => by simp [encRs]
 | r :: t, b, pre => by
   have e : pre ++ [r] ++ t = pre ++ r :: t := by simp
   rw [List.cons_append, encRs, encRs_app t b, e, encRs]
   exact (List.append_assoc _ _ _).symm

theorem encRs_snoc (l : List Rec) (k : Nat) (hk : k < l.length) : encRs [] (l.take (k + 1)) = encRs [] (l.take k) ++ encOne (l.take k) (l.getD k zeroR) := by
 have e : l.take (k + 1) = l.take k ++ [l.getD k zeroR] := by
   rw [List.take_add_one]
   simp [List.getD, hk]
 rw [e, encRs_app]
 simp [encRs]

def oneL (pre : List Rec) (b : List UInt8) : Rec × Nat :=
 let i := (dec62 b).2
 let j := (dec64 (b.drop i)).2
 let k := (getOpL (b.drop (i + j))).2
 let m := (dec64 (b.drop (i + j + k))).2
 if i = 0 ∨ j = 0 ∨ k = 0 ∨ m = 0 then (zeroR, 0)
 else (⟨0, (dec62 b).1, IntKind.i64.wrap (lastSeq pre (dec62 b).1 + zag (dec64 (b.drop i)).1), (getOpL (b.drop (i + j))).1, zag (dec64 (b.drop (i + j + k))).1⟩, i + j + k + m)

theorem wrap_id {n : Int} (h : I64 n) : IntKind.i64.wrap n = n := by
 obtain ⟨h0, h1⟩ := h
 rw [IntKind.wrap_i64]
 omega

theorem diff_i64 {l : List Rec} (hl : ∀ r ∈ l, FitsR r) {r : Rec} (hr : FitsR r) : I64 (r.seq - lastSeq l r.proc) := by
 obtain ⟨h0, h1⟩ := lastSeq_bd r.proc hl
 obtain ⟨_, _, _, hs0, hs1, _⟩ := hr
 exact ⟨by omega, by omega⟩

theorem one_enc {pre : List Rec} (hl : ∀ r ∈ pre, FitsR r) {r : Rec} (hr : FitsR r) (t : List UInt8) : oneL pre (encOne pre r ++ t) = ({ r with idx := 0 }, (encOne pre r).length) := by
 have hd := diff_i64 hl hr
 have hresp := fitsR_resp hr
 obtain ⟨ho, _, _, hs0, hs1, hp0, hp1, _⟩ := id hr
 have E : encOne pre r ++ t = Lib.uvarint r.proc.toNat ++ (Lib.uvarint (Lib.zigzag (r.seq - lastSeq pre r.proc)) ++ (putOpL r.op ++ (Lib.uvarint (Lib.zigzag r.resp) ++ t))) := by
   unfold encOne
   simp only [List.append_assoc]
 have d1 := dec62_uvarint r.proc.toNat (Lib.uvarint (Lib.zigzag (r.seq - lastSeq pre r.proc)) ++ (putOpL r.op ++ (Lib.uvarint (Lib.zigzag r.resp) ++ t))) (by omega)
 rw [<- E] at d1
 have e1 : (encOne pre r ++ t).drop (Lib.uvarint r.proc.toNat).length = Lib.uvarint (Lib.zigzag (r.seq - lastSeq pre r.proc)) ++ (putOpL r.op ++ (Lib.uvarint (Lib.zigzag r.resp) ++ t)) := by rw [E, List.drop_left]
 have d2 := dec64_uvarint (Lib.zigzag (r.seq - lastSeq pre r.proc)) (putOpL r.op ++ (Lib.uvarint (Lib.zigzag r.resp) ++ t)) (zig_lt hd)
 have e2 : (encOne pre r ++ t).drop ((Lib.uvarint r.proc.toNat).length + (Lib.uvarint (Lib.zigzag (r.seq - lastSeq pre r.proc))).length) = putOpL r.op ++ (Lib.uvarint (Lib.zigzag r.resp) ++ t) := by rw [<- List.drop_drop, e1, List.drop_left]
 have d3 := getOp_put r.op ho (Lib.uvarint (Lib.zigzag r.resp) ++ t)
 have e3 : (encOne pre r ++ t).drop ((Lib.uvarint r.proc.toNat).length + (Lib.uvarint (Lib.zigzag (r.seq - lastSeq pre r.proc))).length + (putOpL r.op).length) = Lib.uvarint (Lib.zigzag r.resp) ++ t := by rw [<- List.drop_drop, e2, List.drop_left]
 have d4 := dec64_uvarint (Lib.zigzag r.resp) t (zig_lt hresp)
 have n1 := uv_ne r.proc.toNat
 have n2 := uv_ne (Lib.zigzag (r.seq - lastSeq pre r.proc))
 have n4 := uv_ne (Lib.zigzag r.resp)
 have n3 : (putOpL r.op).length ≠ 0 := by
   unfold putOpL
   have := uv_ne r.op.code.toNat
   rw [List.length_append]
   omega
 unfold oneL
 simp only [d1, e1, d2, e2, d3, e3, d4]
 rw [if_neg (by rintro (h | h | h | h); exact n1 h; exact n2 h; exact n3 h; exact n4 h)]
 have hpn : ((r.proc.toNat : Nat) : Int) = r.proc := by omega
 rw [hpn, zag_zigzag _ hd.1 hd.2, zag_zigzag _ hresp.1 hresp.2]
 have hw : lastSeq pre r.proc + (r.seq - lastSeq pre r.proc) = r.seq := by omega
 rw [hw, wrap_id ⟨by omega, by omega⟩]
 congr 1
 unfold encOne
 simp only [List.length_append]
 omega

def DecB (b : List UInt8) (l : List Rec) (e : Int) : Prop := (e = 0 ∧ FitsB l ∧ encB l = b) ∨ (e = 3 ∧ l = [] ∧ ∀ l', FitsB l' -> encB l' ≠ b)

structure Seg where
 kind : Int
 first : Int
 recs : List Rec

def zeroG : Seg := ⟨0, 0, []⟩

def parseRs : Nat -> Int -> List Rec -> List UInt8 -> List Rec
 | 0, _, pre, _ => pre
 | n + 1, i, pre, b => parseRs n i (pre ++ [{ (oneL pre b).1 with idx := i + pre.length }]) (b.drop (oneL pre b).2)

def parseB (b : List UInt8) : List Rec := parseRs (dec62 (b.drop (dec62 b).2)).1 (dec62 b).1 [] (b.drop ((dec62 b).2 + (dec62 (b.drop (dec62 b).2)).2))

def decBo (b : List UInt8) : Option (List Rec) := if FitsB (parseB b) ∧ encB (parseB b) = b then some (parseB b) else none

theorem parseRs_enc : ∀ (l pre : List Rec) (i : Int) (t : List UInt8), (∀ r ∈ pre, FitsR r) -> (∀ r ∈ l, FitsR r) -> chainR (i + pre.length) l -> parseRs l.length i pre (encRs pre l ++ t) = pre ++ l
 | [], pre, i, t, _, _, _ => by simp [parseRs]
 | r :: l, pre, i, t, hp, hl, hc => by
   obtain ⟨hi, hc⟩ := hc
   have hr := hl r (by simp)
   have e := one_enc hp hr (encRs (pre ++ [r]) l ++ t)
   rw [List.length_cons, parseRs, encRs, List.append_assoc, e]
   have er : ({ ({ r with idx := 0 } : Rec) with idx := i + pre.length } : Rec) = r := by rw [<- hi]
   simp only [er, List.drop_left]
   rw [parseRs_enc l (pre ++ [r]) i t (fun s hs => by
     rcases List.mem_append.1 hs with h | h
     · exact hp s h
     · rw [List.mem_singleton.1 h]; exact hr) (fun s hs => hl s (by simp [hs])) (by
     have e2 : i + ((pre ++ [r]).length : Int) = i + (pre.length : Int) + 1 := by simp; omega
     rw [e2]; exact hc)]
   simp

theorem headD_fits {l : List Rec} (h : FitsB l) : FitsR (l.headD zeroR) := by
 cases l with
 | nil => exact absurd h.1 (by simp)
 | cons r t => exact h.2.2.1 r (by simp)

theorem parseB_enc {l : List Rec} (h : FitsB l) : parseB (encB l) = l := by
 have hh := headD_fits h
 obtain ⟨h1, h2, h3, h4⟩ := h
 obtain ⟨_, i0, i1, _⟩ := hh
 have d1 : dec62 (encB l) = ((l.headD zeroR).idx.toNat, (Lib.uvarint (l.headD zeroR).idx.toNat).length) := by
   unfold encB
   exact dec62_uvarint _ _ (by omega)
 have e1 : (encB l).drop (Lib.uvarint (l.headD zeroR).idx.toNat).length = Lib.uvarint l.length ++ encRs [] l := by
   unfold encB
   rw [List.drop_left]
 have d2 : dec62 (Lib.uvarint l.length ++ encRs [] l) = (l.length, (Lib.uvarint l.length).length) := dec62_uvarint _ _ (by omega)
 unfold parseB
 rw [d1]
 simp only
 rw [<- List.drop_drop, e1, d2]
 simp only [List.drop_left]
 have h := parseRs_enc l [] ((l.headD zeroR).idx.toNat : Nat) [] (by simp) h3 (by
   have e : (((l.headD zeroR).idx.toNat : Nat) : Int) + (([] : List Rec).length : Int) = (l.headD zeroR).idx := by rw [List.length_nil]; omega
   rw [e]
   exact h4)
 rw [List.append_nil] at h
 exact h

theorem decBo_enc {l : List Rec} (h : FitsB l) : decBo (encB l) = some l := by
 unfold decBo
 rw [parseB_enc h, if_pos ⟨h, rfl⟩]

theorem decBo_some {b : List UInt8} {l : List Rec} (h : decBo b = some l) : FitsB l ∧ encB l = b := by
 unfold decBo at h
 split at h
 · rename_i hh
   injection h with h
   rw [<- h]
   exact hh
 · cases h

set_option linter.unusedVariables false in
def elderL (v : Nat) (d : List UInt8) : Option (List Rec) :=
 if hd : d = [] then some []
 else if hk : (dec62 d).2 = 0 ∨ d.length < (dec62 d).2 + (dec62 d).1 ∨ (dec62 d).1 < 1 ∨ (d.getD (dec62 d).2 0).toNat ≠ v then none
 else if (decR ((d.drop (dec62 d).2).take (dec62 d).1)).2 ≠ 0 then none
 else (elderL v (d.drop ((dec62 d).2 + (dec62 d).1))).map (fun t => (decR ((d.drop (dec62 d).2).take (dec62 d).1)).1 :: t)
termination_by d.length
decreasing_by
 have h1 : d.length ≠ 0 := by simpa using hd
 rw [List.length_drop]
 omega

def elderE (v : Nat) (r : Rec) : List UInt8 := Lib.uvarint (encR v r).length ++ encR v r

def dataV (v : Nat) (l : List Rec) : List UInt8 := if v = 3 then encB l else l.flatMap (elderE v)

def headS (v k f : Nat) : List UInt8 := 108 :: (Lib.uvarint v ++ (Lib.uvarint k ++ Lib.uvarint f))

def offsS : Nat -> List (List UInt8) -> List UInt8
 | _, [] => []
 | d, x :: xs => Lib.uvarint d ++ offsS (frameOf x).length xs

def footS (H : List UInt8) (B : List (List UInt8)) : List UInt8 := Lib.uvarint B.length ++ offsS (frameOf H).length B

def RecsOk (l : List Rec) (first : Int) : Prop := l.length <= 4096 ∧ (∀ r ∈ l, FitsR r) ∧ chainR first l

instance (l : List Rec) (first : Int) : Decidable (RecsOk l first) := by unfold RecsOk; infer_instance

def MayG (s : Seg) : Prop := (0 <= s.kind ∧ s.kind < 6 ∧ 0 <= s.first ∧ s.first < 4611686018427387904) ∧ RecsOk s.recs s.first

instance (s : Seg) : Decidable (MayG s) := by unfold MayG; infer_instance

def readH (d : List UInt8) : Except Int (Nat × Nat × Nat) :=
 let i := (dec62 (d.drop 1)).2
 let j := (dec62 (d.drop (1 + i))).2
 let m := (dec62 (d.drop (1 + i + j))).2
 if d = [] ∨ d.getD 0 0 ≠ 108 then .error 3
 else if i = 0 ∨ j = 0 ∨ m = 0 ∨ 1 + i + j + m ≠ d.length then .error 3
 else if (dec62 (d.drop 1)).1 < 1 ∨ 3 < (dec62 (d.drop 1)).1 then .error 6
 else if 6 <= (dec62 (d.drop (1 + i))).1 then .error 1
 else .ok ((dec62 (d.drop 1)).1, (dec62 (d.drop (1 + i))).1, (dec62 (d.drop (1 + i + j))).1)

def readBk (v : Nat) (d : List UInt8) (next : Int) : Option (List Rec) :=
 match (if v < 3 then elderL v d else decBo d) with
 | none => none
 | some l => if ((1 <= l.length ∧ l.length <= 16) ∧ RecsOk l next) ∧ dataV v l = d then some l else none

def walkB (v : Nat) (first : Int) : List (List UInt8) -> List Rec -> Nat -> List Rec × Nat × Int
 | [], acc, _ => (acc, 0, 0)
 | d :: ds, acc, last =>
   match readBk v d (first + acc.length) with
   | none => (acc, 0, 3)
   | some r => if last < 16 then (acc, 0, 3) else if 4096 < acc.length + r.length then (acc, 0, 5)
       else ((walkB v first ds (acc ++ r) r.length).1, (walkB v first ds (acc ++ r) r.length).2.1 + 1, (walkB v first ds (acc ++ r) r.length).2.2)

def decL8 (L : List (List UInt8)) : Seg × Int :=
 if L.length < 2 then (zeroG, 16)
 else match readH (L.headD []) with
   | .error e => (zeroG, e)
   | .ok (v, k, f) =>
     if (walkB v f (L.tail.dropLast) [] 16).2.2 ≠ 0 then (zeroG, (walkB v f (L.tail.dropLast) [] 16).2.2)
     else if footS (L.headD []) L.tail.dropLast = L.getLastD [] then (⟨k, f, (walkB v f (L.tail.dropLast) [] 16).1⟩, 0) else (zeroG, 16)

def recL8 (L : List (List UInt8)) : Seg × Nat × Bool :=
 if L = [] then (zeroG, 0, false)
 else match readH (L.headD []) with
   | .error _ => (zeroG, 0, false)
   | .ok (v, k, f) => (⟨k, f, (walkB v f L.tail [] 16).1⟩, (framesOf (L.take (1 + (walkB v f L.tail [] 16).2.1))).length, true)

def recS8 (b : List UInt8) : Seg × Nat × Bool := recL8 (wholeF b).1

structure Pce where
 name : Int
 first : Int
 stop : Int

def zeroP : Pce := ⟨0, 0, 0⟩

structure Lgb where
 first : Int
 recs : List Rec
 pcs : List Pce

def Lgb.next (b : Lgb) : Int := b.first + b.recs.length

def Lgb.start (b : Lgb) (name first : Int) : Lgb := ⟨if b.pcs.length = 0 then first else b.first, b.recs, b.pcs ++ [⟨name, first, first⟩]⟩

def moreLast (l : List Pce) (n : Nat) : List Pce := l.set (l.length - 1) ⟨(l.getD (l.length - 1) zeroP).name, (l.getD (l.length - 1) zeroP).first, (l.getD (l.length - 1) zeroP).stop + n⟩

def Lgb.add (b : Lgb) (l : List Rec) : Lgb := ⟨b.first, b.recs ++ l, moreLast b.pcs l.length⟩

def Lgb.leads (b : Lgb) (base : Snap) : Prop := b.pcs.length ≠ 0 ∧ b.first <= base.idx ∧ base.idx <= b.next ∧ (takeN base (b.recs.drop (base.idx - b.first).toNat)).2 = 0

instance (b : Lgb) (base : Snap) : Decidable (b.leads base) := by unfold Lgb.leads; infer_instance

def Lgb.behind (b : Lgb) (base : Snap) : Lgb × Snap :=
 if b.leads base then (b, (takeN base (b.recs.drop (base.idx - b.first).toNat)).1) else (⟨base.idx, [], []⟩, base)

structure Sto where
 log : Lgb
 bases : List Snap
 now : Snap
 synced : Int
 cur : Int
 nw : Bool

def Sto.next (s : Sto) : Int := s.log.next
def Sto.base (s : Sto) : Snap := s.bases.getD (s.bases.length - 1) zeroN

abbrev SDk := Sto × Dk

def namesD (d : Dk) : List Int := (dirD d).map Prod.fst

def sortD (l : List Int) (first : Int) : List Int := l.filter fun n => !(decide (n < first) || decide ((n - first) % 2 ≠ 0))

def nextName (d : Dk) (first : Int) : Int := (sortD (namesD d) first).getD ((sortD (namesD d) first).length - 1) (first - 2) + 2

def headK (H : List UInt8) (kind : Int) : Option Nat :=
 match readH H with
 | .ok (v, k, f) => if v = 3 ∧ (k : Int) = kind then some f else none
 | .error _ => none

def blocksK (first : Int) : List (List UInt8) -> List Rec -> List Rec
 | [], acc => acc
 | d :: t, acc =>
   match decBo d with
   | none => acc
   | some l => if (l.headD zeroR).idx = first + acc.length then blocksK first t (acc ++ l) else acc

def segK (b : List UInt8) (kind : Int) : Option (Nat × List Rec) :=
 match (wholeF b).1 with
 | [] => none
 | H :: B => (headK H kind).map fun f => (f, blocksK f B [])

def zeroLog : Lgb := ⟨0, [], []⟩

def logOne (d : Dk) (kind : Int) (b : Lgb) (n : Int) : Lgb :=
 match segK (readD d n).1 kind with
 | none => b
 | some (f, l) => if b.pcs.length = 0 ∨ (f : Int) = b.next then (b.start n f).add l else b

def logD (d : Dk) (kind : Int) : Lgb := (sortD (namesD d) 2).foldl (logOne d kind) zeroLog

def startK (kind : Int) : Snap := ⟨0, startS kind, []⟩

def baseOne (d : Dk) (kind : Int) (l : List Snap) (n : Int) : List Snap :=
 if (decN (readD d n).1).2 = 0 ∧ (decN (readD d n).1).1.st.kind = kind then l ++ [(decN (readD d n).1).1] else l

def basesD (d : Dk) (kind : Int) : List Snap := (sortD (namesD d) 3).foldl (baseOne d kind) [startK kind]

def lastSn (l : List Snap) : Snap := l.getD (l.length - 1) zeroN

def openS (d : Dk) (kind : Int) : Sto :=
 ⟨((logD d kind).behind (lastSn (basesD d kind))).1, basesD d kind, ((logD d kind).behind (lastSn (basesD d kind))).2, ((logD d kind).behind (lastSn (basesD d kind))).1.next, 0, false⟩

def openE (d : Dk) (kind : Int) : Int := if kind < 0 ∨ 6 <= kind then 1 else if d.power = 0 then 11 else 0

def seqS : List (SDk -> SDk × Int) -> SDk -> SDk × Int
 | [], x => (x, 0)
 | f :: t, x => if (f x).2 = 0 then seqS t (f x).1 else f x

def syncDirS (x : SDk) : SDk × Int := ((if (syncDirD x.2).2 = 0 then { x.1 with nw := false } else x.1, (syncDirD x.2).1), (syncDirD x.2).2)

def keepNameS (x : SDk) : SDk × Int := if x.1.nw = true then syncDirS x else (x, 0)

def diskS (f : Dk -> Dk × Int) (x : SDk) : SDk × Int := ((x.1, (f x.2).1), (f x.2).2)

def syncFileS (x : SDk) : SDk × Int := diskS (fun d => syncD d x.1.cur) x

def syncedS (s : Sto) : Sto := { s with synced := s.next }

def syncS (x : SDk) : SDk × Int :=
 if x.1.cur = 0 then ((syncedS x.1, x.2), 0) else
 if (seqS [syncFileS, keepNameS] x).2 = 0 then ((syncedS (seqS [syncFileS, keepNameS] x).1.1, (seqS [syncFileS, keepNameS] x).1.2), 0) else seqS [syncFileS, keepNameS] x

def bytesA (s : Sto) (l : List Rec) : List UInt8 := if s.cur = 0 then frameOf (headS 3 s.now.st.kind.toNat s.next.toNat) ++ frameOf (encB l) else frameOf (encB l)

def nameA (s : Sto) (d : Dk) : Int := if s.cur = 0 then nextName d 2 else s.cur

def appendedS (s : Sto) (name : Int) (l : List Rec) : Sto :=
 { s with log := (if s.cur = 0 then s.log.start name s.next else s.log).add l, now := (takeN s.now l).1, cur := name, nw := if s.cur = 0 then true else s.nw }

def appendS (l : List Rec) (x : SDk) : SDk × Int :=
 if ¬ FitsB l then (x, 1) else if (l.headD zeroR).idx ≠ x.1.next then (x, 15) else
 if (appendD x.2 (nameA x.1 x.2) (bytesA x.1 l)).2 = 0 then ((appendedS x.1 (nameA x.1 x.2) l, (appendD x.2 (nameA x.1 x.2) (bytesA x.1 l)).1), 0)
 else ((x.1, (appendD x.2 (nameA x.1 x.2) (bytesA x.1 l)).1), (appendD x.2 (nameA x.1 x.2) (bytesA x.1 l)).2)

theorem take_drop_app (l : List UInt8) (a b : Nat) : (l.drop a).take b ++ l.drop (a + b) = l.drop a := by rw [<- List.drop_drop, List.take_append_drop]

theorem entL_pos (e : Ent) : 1 <= (entL e).length := by
 unfold entL
 have := uv_ne e.proc.toNat
 rw [List.length_append]
 omega

theorem entsL_len (t : List Ent) : t.length <= (entsL t).length := by
 induction t with
 | nil => simp
 | cons e t ih =>
   unfold entsL at ih ⊢
   rw [List.flatMap_cons, List.length_append, List.length_cons]
   have := entL_pos e
   omega

theorem readE_sound : ∀ (n : Nat) (b : List UInt8) (t : List Ent) (x : List UInt8), readE n b = some (t, x) -> t.length = n ∧ b = entsL t ++ x
 | 0, b, t, x, h => by
   simp only [readE, Option.some.injEq, Prod.mk.injEq] at h
   obtain ⟨rfl, rfl⟩ := h
   exact ⟨rfl, rfl⟩
 | n + 1, b, t, x, h => by
   rw [readE] at h
   split at h
   · cases h
   · rename_i hne
     have n1 : (dec62 b).2 ≠ 0 := fun e => hne (.inl e)
     have n2 : (dec62 (b.drop (dec62 b).2)).2 ≠ 0 := fun e => hne (.inr (.inl e))
     have n3 : (dec64 (b.drop ((dec62 b).2 + (dec62 (b.drop (dec62 b).2)).2))).2 ≠ 0 := fun e => hne (.inr (.inr e))
     rw [Option.map_eq_some_iff] at h
     obtain ⟨⟨t', x'⟩, hr, he⟩ := h
     simp only [Prod.mk.injEq] at he
     obtain ⟨rfl, rfl⟩ := he
     obtain ⟨i1, i2⟩ := readE_sound n _ t' x' hr
     refine ⟨by rw [List.length_cons, i1], ?_⟩
     have t1 := dec62_take n1
     have t2 := dec62_take n2
     have t3 := dec64_take n3
     have E : entsL (⟨(dec62 b).1, (dec62 (b.drop (dec62 b).2)).1, zag (dec64 (b.drop ((dec62 b).2 + (dec62 (b.drop (dec62 b).2)).2))).1⟩ :: t') ++ x' = Lib.uvarint (dec62 b).1 ++ (Lib.uvarint (dec62 (b.drop (dec62 b).2)).1 ++ (Lib.uvarint (dec64 (b.drop ((dec62 b).2 + (dec62 (b.drop (dec62 b).2)).2))).1 ++ (entsL t' ++ x'))) := by
       unfold entsL
       rw [List.flatMap_cons]
       unfold entL
       simp only [Int.toNat_natCast, zigzag_zag, List.append_assoc]
     have g3 : Lib.uvarint (dec64 (b.drop ((dec62 b).2 + (dec62 (b.drop (dec62 b).2)).2))).1 ++ (entsL t' ++ x') = b.drop ((dec62 b).2 + (dec62 (b.drop (dec62 b).2)).2) := by
       rw [<- i2, t3]
       exact take_drop_app _ _ _
     have g2 : Lib.uvarint (dec62 (b.drop (dec62 b).2)).1 ++ b.drop ((dec62 b).2 + (dec62 (b.drop (dec62 b).2)).2) = b.drop (dec62 b).2 := by
       rw [t2]
       exact take_drop_app _ _ _
     rw [E, g3, g2, t1, List.take_append_drop]

theorem tableL_sound {b : List UInt8} {t : List Ent} (h : tableL b = some t) : tabL t = b := by
 unfold tableL at h
 split at h
 · cases h
 · rename_i hne
   have n1 : (dec62 b).2 ≠ 0 := fun e => hne (.inl e)
   cases hr : readE (dec62 b).1 (b.drop (dec62 b).2) with
   | none => rw [hr] at h; cases h
   | some p =>
     obtain ⟨t', x⟩ := p
     rw [hr] at h
     cases x with
     | cons c x => cases h
     | nil =>
       simp only [Option.some.injEq] at h
       subst h
       obtain ⟨i1, i2⟩ := readE_sound _ _ _ _ hr
       rw [List.append_nil] at i2
       unfold tabL
       rw [i1, <- i2, dec62_take n1, List.take_append_drop]

theorem readN_sound {w : List UInt8} (h : (readN w).2 = 0) : wholeN ⟨0, (readN w).1.st, (readN w).1.tab⟩ = w := by
 unfold readN at h ⊢
 split at h
 · exact absurd h (by decide)
 · rename_i hne
   rw [if_neg hne]
   have n1 : (dec62 w).2 ≠ 0 := fun e => hne (.inl e)
   have n2 : (dec62 w).2 + (dec62 w).1 <= w.length := by omega
   split at h
   · exact absurd h (by decide)
   · rename_i h3
     rw [if_neg h3]
     cases ht : tableL (w.drop ((dec62 w).2 + (dec62 w).1)) with
     | none => rw [ht] at h; exact absurd h (by show ¬ ((3 : Int) = 0); decide)
     | some t =>
       rw [ht] at h
       have hs := decS_sound h
       have htl := tableL_sound ht
       show wholeN ⟨0, (decS ((w.drop (dec62 w).2).take (dec62 w).1)).1, t⟩ = w
       unfold wholeN
       rw [hs.2, htl, List.length_take, List.length_drop, Nat.min_eq_left (by omega), dec62_take n1, <- List.drop_drop, List.take_append_drop, List.take_append_drop]

theorem maniL_sound {d : List UInt8} (h : (maniL d).2.2.2 = 0) {w : List UInt8} (hl : w.length = (maniL d).2.1) (hc : crcMore 0 w = (maniL d).2.2.1) : d = maniN (maniL d).1 w ∧ (maniL d).1 < 4611686018427387904 := by
 unfold maniL at h hl hc ⊢
 split at h
 · exact absurd h (by decide)
 · rename_i h0
   rw [if_neg h0] at hl hc ⊢
   simp only at h hl hc ⊢
   split at h
   · exact absurd h (by decide)
   · rename_i h1
     rw [if_neg h1] at hl hc ⊢
     split at h
     · exact absurd h (by decide)
     · rename_i h2
       rw [if_neg h2] at hl hc ⊢
       split at h
       · exact absurd h (by decide)
       · rename_i h3
         rw [if_neg h3] at hl hc ⊢
         simp only at hl hc ⊢
         have n1 : (dec62 (d.drop 1)).2 ≠ 0 := fun e => h1 (.inl e)
         have n2 : (dec62 (d.drop (1 + (dec62 (d.drop 1)).2))).2 ≠ 0 := fun e => h1 (.inr (.inl e))
         have n3 : (dec62 (d.drop (1 + (dec62 (d.drop 1)).2 + (dec62 (d.drop (1 + (dec62 (d.drop 1)).2))).2))).2 ≠ 0 := fun e => h1 (.inr (.inr e))
         have hv : (dec62 (d.drop 1)).1 = 3 := Decidable.not_not.1 h2
         have h4 : (d.drop (1 + (dec62 (d.drop 1)).2 + (dec62 (d.drop (1 + (dec62 (d.drop 1)).2))).2 + (dec62 (d.drop (1 + (dec62 (d.drop 1)).2 + (dec62 (d.drop (1 + (dec62 (d.drop 1)).2))).2))).2)).length = 4 := Decidable.not_not.1 h3
         have t1 := dec62_take n1
         have t2 := dec62_take n2
         have t3 := dec62_take n3
         have hlb := leBytes_leNat (d.drop (1 + (dec62 (d.drop 1)).2 + (dec62 (d.drop (1 + (dec62 (d.drop 1)).2))).2 + (dec62 (d.drop (1 + (dec62 (d.drop 1)).2 + (dec62 (d.drop (1 + (dec62 (d.drop 1)).2))).2))).2))
         rw [h4] at hlb
         have hfst : (dec62 (d.drop (1 + (dec62 (d.drop 1)).2))).1 < 4611686018427387904 := by
           rcases dec62_cases (d.drop (1 + (dec62 (d.drop 1)).2)) with e | e
           · rw [e]; decide
           · exact e.1
         refine ⟨?_, hfst⟩
         unfold maniN
         have g3 : Lib.uvarint w.length ++ Lib.leBytes 4 (crcMore 0 w) = d.drop (1 + (dec62 (d.drop 1)).2 + (dec62 (d.drop (1 + (dec62 (d.drop 1)).2))).2) := by
           rw [hc, hlb, hl, t3]
           exact take_drop_app _ _ _
         have g2 : Lib.uvarint (dec62 (d.drop (1 + (dec62 (d.drop 1)).2))).1 ++ d.drop (1 + (dec62 (d.drop 1)).2 + (dec62 (d.drop (1 + (dec62 (d.drop 1)).2))).2) = d.drop (1 + (dec62 (d.drop 1)).2) := by
           rw [t2]
           exact take_drop_app _ _ _
         have g1 : Lib.uvarint 3 ++ d.drop (1 + (dec62 (d.drop 1)).2) = d.drop 1 := by
           rw [<- hv, t1]
           exact take_drop_app _ _ _
         rw [g3, g2, g1]
         have h00 : (d.getD 0 0).toNat = 115 := Decidable.not_not.1 (fun e => h0 (.inr e))
         have h01 : ¬ d.length < 1 := fun e => h0 (.inl e)
         cases d with
         | nil => exact absurd (by decide) h01
         | cons c r =>
           have : c = 115 := by
             apply UInt8.toNat_inj.1
             simpa using h00
           rw [this]
           rfl

theorem decN_sound {b : List UInt8} (h : (decN b).2 = 0) : MayN (decN b).1 ∧ encN (decN b).1 = b := by
 unfold decN at h ⊢
 by_cases hw : (wholeF b).2.2 = 0
 case neg =>
   rw [if_pos hw] at h
   exact absurd h (by show ((wholeF b).2.2 : Int) ≠ 0; omega)
 rw [if_neg (Decidable.not_not.2 hw)] at h ⊢
 obtain ⟨hb, hlen⟩ := wholeF_all _ b (Nat.le_refl _) hw
 generalize (wholeF b).1 = L at *
 unfold partsD at h ⊢
 cases L with
 | nil => exact absurd h (by decide)
 | cons d P =>
   simp only at h ⊢
   split at h
   · rename_i e; exact absurd h e
   rename_i h1
   rw [if_neg h1]
   split at h
   · exact absurd h (by decide)
   rename_i h2
   rw [if_neg h2]
   split at h
   · exact absurd h (by decide)
   rename_i h3
   rw [if_neg h3]
   split at h
   · exact absurd h (by decide)
   rename_i h4
   rw [if_neg h4]
   split at h
   · rename_i e; exact absurd h e
   rename_i h5
   rw [if_neg h5]
   split at h
   · rename_i h6
     rw [if_pos h6]
     have hm := maniL_sound (Decidable.not_not.1 h1) (Decidable.not_not.1 h2) (Decidable.not_not.1 h4)
     have hr := readN_sound (Decidable.not_not.1 h5)
     have hp := cutOk_pieces P (Decidable.not_not.1 h3)
     refine ⟨h6, ?_⟩
     have hwn : wholeN ⟨((maniL d).1 : Nat), (readN P.flatten).1.st, (readN P.flatten).1.tab⟩ = P.flatten := hr
     unfold encN partsN
     rw [hwn, hp]
     show framesOf (maniN (((maniL d).1 : Nat) : Int).toNat P.flatten :: P) = b
     rw [Int.toNat_natCast, <- hm.1]
     exact hb
   · exact absurd h (by decide)

def chainP : Int -> List Pce -> Int -> Prop
 | i, [], j => i = j
 | i, p :: t, j => p.first = i ∧ i <= p.stop ∧ chainP p.stop t j

theorem chainP_le : ∀ {l : List Pce} {i j : Int}, chainP i l j -> i <= j
 | [], _, _, h => Int.le_of_eq h
 | _ :: _, _, _, h => by
   have := chainP_le h.2.2
   have := h.2.1
   omega

theorem chainP_mem : ∀ {l : List Pce} {i j : Int}, chainP i l j -> ∀ p ∈ l, i <= p.first ∧ p.first <= p.stop ∧ p.stop <= j
 | q :: t, i, j, h, p, hp => by
   obtain ⟨h1, h2, h3⟩ := h
   rcases List.mem_cons.1 hp with rfl | hp
   · have := chainP_le h3
     omega
   · have := chainP_mem h3 p hp
     omega

theorem chainP_app : ∀ {a b : List Pce} {i j : Int}, chainP i (a ++ b) j ↔ ∃ k, chainP i a k ∧ chainP k b j
 | [], b, i, j => by
   constructor
   · intro h
     exact ⟨i, rfl, h⟩
   · rintro ⟨k, h1, h2⟩
     have e : i = k := h1
     rw [e]
     exact h2
 | p :: a, b, i, j => by
   constructor
   · rintro ⟨h1, h2, h3⟩
     obtain ⟨k, h4, h5⟩ := chainP_app.1 h3
     exact ⟨k, ⟨h1, h2, h4⟩, h5⟩
   · rintro ⟨k, ⟨h1, h2, h4⟩, h5⟩
     exact ⟨h1, h2, chainP_app.2 ⟨k, h4, h5⟩⟩

theorem moreLast_snoc (l : List Pce) (p : Pce) (n : Nat) : moreLast (l ++ [p]) n = l ++ [⟨p.name, p.first, p.stop + n⟩] := by
 unfold moreLast
 have e : (l ++ [p]).length - 1 = l.length := by simp
 rw [e]
 have e2 : (l ++ [p]).getD l.length zeroP = p := by simp [List.getD]
 rw [e2, List.set_append_right _ _ (Nat.le_refl _)]
 simp

theorem moreLast_length (l : List Pce) (n : Nat) : (moreLast l n).length = l.length := by simp [moreLast]

theorem snoc_of {α : Type} {l : List α} (h : l.length ≠ 0) : ∃ a x, l = a ++ [x] := by
 have hne : l ≠ [] := fun e => h (by rw [e]; rfl)
 exact ⟨l.dropLast, l.getLast hne, (List.dropLast_concat_getLast hne).symm⟩

theorem chainP_more {l : List Pce} {i j : Int} {n : Nat} (h : chainP i l j) (h0 : l.length ≠ 0) : chainP i (moreLast l n) (j + n) := by
 obtain ⟨a, p, rfl⟩ := snoc_of h0
 rw [moreLast_snoc, chainP_app]
 obtain ⟨k, h1, h2, h3, h4⟩ := chainP_app.1 h
 refine ⟨k, h1, h2, ?_, ?_⟩
 · show k <= p.stop + n
   omega
 · show p.stop + n = j + n
   have e : p.stop = j := h4
   rw [e]

theorem chainP_snoc {l : List Pce} {i j : Int} (h : chainP i l j) (name : Int) : chainP i (l ++ [⟨name, j, j⟩]) j := chainP_app.2 ⟨j, h, rfl, Int.le_refl _, rfl⟩

structure OkG (b : Lgb) : Prop where
 f0 : 0 <= b.first
 fits : ∀ r ∈ b.recs, FitsR r
 ch : chainP b.first b.pcs b.next
 rc : chainR b.first b.recs
 top : b.next <= 4611686018427387904

theorem chainR_app : ∀ {a b : List Rec} {i : Int}, chainR i (a ++ b) ↔ chainR i a ∧ chainR (i + a.length) b
 | [], b, i => by simp [chainR]
 | r :: a, b, i => by
   have e : i + 1 + (a.length : Int) = i + (((r :: a).length : Nat) : Int) := by rw [List.length_cons]; omega
   rw [List.cons_append, <- e]
   show (r.idx = i ∧ chainR (i + 1) (a ++ b)) ↔ (r.idx = i ∧ chainR (i + 1) a) ∧ chainR (i + 1 + (a.length : Int)) b
   rw [chainR_app, and_assoc]

theorem okG_zero (i : Int) (h0 : 0 <= i) (h1 : i <= 4611686018427387904) : OkG ⟨i, [], []⟩ := by
 have e : (⟨i, [], []⟩ : Lgb).next = i := by simp [Lgb.next]
 exact ⟨h0, (fun r hr => by cases hr), by rw [e]; exact rfl, trivial, by rw [e]; exact h1⟩

theorem Lgb.start_next (b : Lgb) (n f : Int) (h : b.pcs.length = 0 -> b.recs = []) (hf : b.pcs.length = 0 ∨ f = b.next) : (b.start n f).next = f := by
 unfold Lgb.start Lgb.next
 by_cases h0 : b.pcs.length = 0
 · rw [if_pos h0, h h0]
   simp
 · rw [if_neg h0]
   rcases hf with hf | hf
   · exact absurd hf h0
   · rw [hf]
     rfl

theorem OkG.empty {b : Lgb} (h : OkG b) (h0 : b.pcs.length = 0) : b.recs = [] := by
 have h1 := h.ch
 rw [List.eq_nil_of_length_eq_zero h0] at h1
 have h2 : b.first = b.next := h1
 unfold Lgb.next at h2
 exact List.eq_nil_of_length_eq_zero (by omega)

theorem OkG.start {b : Lgb} (h : OkG b) (n f : Int) (h0 : 0 <= f) (h1 : f <= 4611686018427387904) (hf : b.pcs.length = 0 ∨ f = b.next) : OkG (b.start n f) := by
 have hn := b.start_next n f h.empty hf
 by_cases he : b.pcs.length = 0
 · have e : b.start n f = ⟨f, [], [⟨n, f, f⟩]⟩ := by
     unfold Lgb.start
     rw [if_pos he, h.empty he, List.eq_nil_of_length_eq_zero he]
     rfl
   rw [e] at hn ⊢
   exact ⟨h0, (fun r hr => by cases hr), by rw [hn]; exact ⟨rfl, Int.le_refl _, rfl⟩, trivial, by rw [hn]; exact h1⟩
 · have hfn : f = b.next := hf.resolve_left he
   have e : b.start n f = ⟨b.first, b.recs, b.pcs ++ [⟨n, f, f⟩]⟩ := by
     unfold Lgb.start
     rw [if_neg he]
   rw [e] at hn ⊢
   refine ⟨h.f0, h.fits, ?_, h.rc, by rw [hn]; exact h1⟩
   rw [hn, hfn]
   exact chainP_snoc h.ch n

theorem Lgb.add_next (b : Lgb) (l : List Rec) : (b.add l).next = b.next + l.length := by
 unfold Lgb.add Lgb.next
 simp only [List.length_append]
 omega

theorem OkG.add {b : Lgb} (h : OkG b) (l : List Rec) (h0 : b.pcs.length ≠ 0) (hf : ∀ r ∈ l, FitsR r) (hc : chainR b.next l) (ht : b.next + l.length <= 4611686018427387904) : OkG (b.add l) := by
 refine ⟨h.f0, fun r hr => ?_, ?_, ?_, by rw [b.add_next]; exact ht⟩
 · rcases List.mem_append.1 hr with hr | hr
   · exact h.fits r hr
   · exact hf r hr
 · rw [b.add_next]
   exact chainP_more h.ch h0
 · exact chainR_app.2 ⟨h.rc, hc⟩

theorem chainR_top : ∀ {l : List Rec} {i : Int}, chainR i l -> (∀ r ∈ l, FitsR r) -> l ≠ [] -> i + l.length <= 4611686018427387904
 | [], _, _, _, h => absurd rfl h
 | [r], i, h, hf, _ => by
   have h1 : r.idx = i := h.1
   have h2 := (hf r List.mem_cons_self).2.2.1
   simp only [List.length_singleton]
   omega
 | r :: q :: t, i, h, hf, _ => by
   have := chainR_top (l := q :: t) h.2 (fun x hx => hf x (List.mem_cons_of_mem _ hx)) (by simp)
   simp only [List.length_cons] at this ⊢
   omega

open Go.RowKit Go.Shelf

def layW_ren : Go.Shelf.Ren := ⟨fun | 5 => 148 | 7 => 195 | n => n, fun | 23 => 69 | 25 => 3 | 3 => 109 | 4 => 4 | 20 => 20 | n => n, fun | n => n⟩

theorem layW : Go.Proofs.SlLaysW.n5 Tryz.prog layW_ren := {
 mixed := by kernel_rfl
 f5 := ⟨Tryz.f148.name, by decide, Tryz.func148.trans (congrArg some (by kernel_rfl))⟩
 f7 := Tryz.func195.trans (congrArg some (by kernel_rfl))
 t4 := Tryz.underlying4
 a4 := Tryz.isAgg4
 z4 := Tryz.sizeOf4
 v4 := Tryz.zeroValue4
 t20 := Tryz.underlying20
 a20 := Tryz.isAgg20
 z20 := Tryz.sizeOf20
 v20 := Tryz.zeroValue20
 t23 := Tryz.underlying69
 a23 := Tryz.isAgg69
 z23 := Tryz.sizeOf69
 v23 := Tryz.zeroValue69 }

def layX_ren : Go.Shelf.Ren := ⟨fun | 5 => 80 | n => n, fun | 23 => 69 | 24 => 69 | 26 => 3 | 27 => 109 | 0 => 0 | 4 => 4 | n => n, fun | n => n⟩

theorem layX : Go.Proofs.SlLaysX.n5 Tryz.prog layX_ren := {
 mixed := by kernel_rfl
 f5 := ⟨Tryz.f80.name, by decide, Tryz.func80.trans (congrArg some (by kernel_rfl))⟩
 t0 := Tryz.underlying0
 a0 := Tryz.isAgg0
 z0 := Tryz.sizeOf0
 v0 := Tryz.zeroValue0
 t4 := Tryz.underlying4
 a4 := Tryz.isAgg4
 z4 := Tryz.sizeOf4
 v4 := Tryz.zeroValue4
 t23 := Tryz.underlying69
 a23 := Tryz.isAgg69
 z23 := Tryz.sizeOf69
 v23 := Tryz.zeroValue69
 t24 := Tryz.underlying69
 a24 := Tryz.isAgg69
 z24 := Tryz.sizeOf69
 v24 := Tryz.zeroValue69
 a26 := Tryz.isAgg3
 z26 := Tryz.sizeOf3
 a27 := Tryz.isAgg109
 z27 := Tryz.sizeOf109 }

def layS_ren : Go.Shelf.Ren := ⟨fun | 189 => 75 | 125 => 113 | 257 => 112 | 128 => 158 | 129 => 159 | 294 => 149 | 295 => 150 | 296 => 151 | 297 => 152 | 298 => 153 | 299 => 154 | 216 => 155 | 300 => 156 | 301 => 157 | 328 => 196 | 329 => 197 | 330 => 198 | 331 => 199 | 332 => 200 | 215 => 201 | 343 => 219 | n => n, fun | 28 => 23 | 3 => 3 | 46 => 159 | 0 => 0 | 51 => 147 | 53 => 204 | 4 => 4 | 183 => 196 | 182 => 195 | 131 => 172 | 5 => 5 | 9 => 9 | 218 => 241 | 222 => 210 | 228 => 270 | 229 => 249 | n => n, fun | n => n⟩

theorem layS : Go.Proofs.Lays.n189 Tryz.prog layS_ren := {
 mixed := by kernel_rfl
 f125 := Tryz.func113.trans (congrArg some (by kernel_rfl))
 f128 := Tryz.func158.trans (congrArg some (by kernel_rfl))
 f129 := Tryz.func159.trans (congrArg some (by kernel_rfl))
 f189 := Tryz.func75.trans (congrArg some (by kernel_rfl))
 f215 := Tryz.func201.trans (congrArg some (by kernel_rfl))
 f216 := Tryz.func155.trans (congrArg some (by kernel_rfl))
 f257 := Tryz.func112.trans (congrArg some (by kernel_rfl))
 f294 := Tryz.func149.trans (congrArg some (by kernel_rfl))
 f295 := Tryz.func150.trans (congrArg some (by kernel_rfl))
 f296 := Tryz.func151.trans (congrArg some (by kernel_rfl))
 f297 := Tryz.func152.trans (congrArg some (by kernel_rfl))
 f298 := Tryz.func153.trans (congrArg some (by kernel_rfl))
 f299 := Tryz.func154.trans (congrArg some (by kernel_rfl))
 f300 := Tryz.func156.trans (congrArg some (by kernel_rfl))
 f301 := Tryz.func157.trans (congrArg some (by kernel_rfl))
 f328 := Tryz.func196.trans (congrArg some (by kernel_rfl))
 f329 := Tryz.func197.trans (congrArg some (by kernel_rfl))
 f330 := Tryz.func198.trans (congrArg some (by kernel_rfl))
 f331 := Tryz.func199.trans (congrArg some (by kernel_rfl))
 f332 := Tryz.func200.trans (congrArg some (by kernel_rfl))
 f343 := Tryz.func219.trans (congrArg some (by kernel_rfl))
 t0 := Tryz.underlying0
 a0 := Tryz.isAgg0
 z0 := Tryz.sizeOf0
 v0 := Tryz.zeroValue0
 t3 := Tryz.underlying3
 a3 := Tryz.isAgg3
 z3 := Tryz.sizeOf3
 v3 := Tryz.zeroValue3
 t4 := Tryz.underlying4
 a4 := Tryz.isAgg4
 z4 := Tryz.sizeOf4
 v4 := Tryz.zeroValue4
 t5 := Tryz.underlying5
 a5 := Tryz.isAgg5
 z5 := Tryz.sizeOf5
 v5 := Tryz.zeroValue5
 t9 := Tryz.underlying9
 a9 := Tryz.isAgg9
 z9 := Tryz.sizeOf9
 v9 := Tryz.zeroValue9
 t28 := Tryz.underlying23
 a28 := Tryz.isAgg23
 z28 := Tryz.sizeOf23
 v28 := Tryz.zeroValue23
 t46 := Tryz.underlying159
 a46 := Tryz.isAgg159
 z46 := Tryz.sizeOf159
 v46 := Tryz.zeroValue159
 t51 := Tryz.underlying147
 a51 := Tryz.isAgg147
 z51 := Tryz.sizeOf147
 v51 := Tryz.zeroValue147
 t53 := Tryz.underlying204
 a53 := Tryz.isAgg204
 z53 := Tryz.sizeOf204
 v53 := Tryz.zeroValue204
 t131 := Tryz.underlying172
 a131 := Tryz.isAgg172
 z131 := Tryz.sizeOf172
 v131 := Tryz.zeroValue172
 t182 := Tryz.underlying195
 a182 := Tryz.isAgg195
 z182 := Tryz.sizeOf195
 v182 := Tryz.zeroValue195
 t183 := Tryz.underlying196
 a183 := Tryz.isAgg196
 z183 := Tryz.sizeOf196
 v183 := Tryz.zeroValue196
 t218 := Tryz.underlying241
 a218 := Tryz.isAgg241
 z218 := Tryz.sizeOf241
 v218 := Tryz.zeroValue241
 t222 := Tryz.underlying210
 a222 := Tryz.isAgg210
 z222 := Tryz.sizeOf210
 v222 := Tryz.zeroValue210
 t228 := Tryz.underlying270
 a228 := Tryz.isAgg270
 z228 := Tryz.sizeOf270
 v228 := Tryz.zeroValue270
 t229 := Tryz.underlying249
 a229 := Tryz.isAgg249
 z229 := Tryz.sizeOf249
 v229 := Tryz.zeroValue249 }

set_option maxRecDepth 100000
open Go.RowKit Go.Maps Go.Shelf
open Go.ChangeMaps Go.MapKept
open Go.WideElems (Fit rd rg pl rd_val elemAt)

theorem dirKeys : Keyed Tryz.prog 3 := int_keyed Tryz.underlying3

theorem dirZero (w : World) : (zeroValue 109).run Tryz.prog w = .ok (.pointer none) w := by kernel_rfl

theorem wf64p {n : Int} (h : I64 n) : (Lit.int .i64 n).wf = true := WalkArith.wf_i64 (by obtain ⟨h0, h1⟩ := h; omega)

def ptrElem (v : Value) : Option (DataW Unit × List MemPlace) :=
 match v with
 | .pointer (some ⟨b, 0, none⟩) => some (.lit (.int .i64 (b : Int)), [])
 | _ => none

theorem ptrElem_mk (b : Nat) : ptrElem (.pointer (some ⟨b, 0, none⟩)) = some (.lit (.int .i64 (b : Int)), []) := rfl

theorem ptrElem_inv {v : Value} {z : DataW Unit × List MemPlace} (h : ptrElem v = some z) : ∃ b : Nat, v = .pointer (some ⟨b, 0, none⟩) ∧ z = (.lit (.int .i64 (b : Int)), []) := by
 unfold ptrElem at h
 split at h
 · cases h
   exact ⟨_, rfl, rfl⟩
 · cases h

def litO (z : DataW Unit) : Option Nat -> DataW Unit
 | some x => .lit (.int .i64 (x : Int))
 | none => z

def ReadsM (D : DataW Unit) (f : Int -> Option Nat) : Prop :=
 ∀ p, I64 p -> ∀ z, D.atKey (.int .i64 p) z = litO z (f p)

def MapP (w : World) (b n : Nat) (f : Int -> Option Nat) : Prop :=
 ∃ D : DataW Unit, w.ownsMap Tryz.prog 3 ptrElem b n D ∧ ReadsM D f

def ptrO : Option Nat -> Value
 | some x => .pointer (some ⟨x, 0, none⟩)
 | none => .pointer none

theorem ReadsM.has {D : DataW Unit} {f : Int -> Option Nat} (h : ReadsM D f) {p : Int} (hp : I64 p) : Maps.has D (.int .i64 p) = (f p).isSome := by
 cases e : f p with
 | none =>
   refine has_false_of_atKey fun z => ?_
   rw [h p hp z, e]
   rfl
 | some x =>
   refine has_true_of_atKey (y := .lit (.int .i64 (x : Int))) fun z => ?_
   rw [h p hp z, e]
   rfl

theorem MapP.made (w : World) : MapP (w.alloc (.map #[] 0)) w.heap.size 0 (fun _ => none) :=
 ⟨.map [], World.ownsMap_made _ _ _ _, fun _ _ _ => rfl⟩

theorem MapP.lt {w : World} {b n : Nat} {f : Int -> Option Nat} (h : MapP w b n f) : b < w.heap.size := by
 obtain ⟨D, h1, _⟩ := h
 exact h1.lt

theorem MapP.mono {w : World} {b n n' : Nat} {f : Int -> Option Nat} (h : MapP w b n f) (hn : n <= n') : MapP w b n' f := by
 obtain ⟨D, h1, h2⟩ := h
 exact ⟨D, h1.mono hn, h2⟩

theorem MapP.keep {w w' : World} {b n : Nat} {f : Int -> Option Nat} (h : MapP w b n f) (hk : w'.heap[b]? = w.heap[b]?) : MapP w' b n f := by
 obtain ⟨D, ⟨es, clock, hb, r⟩, h2⟩ := h
 exact ⟨D, ⟨es, clock, hk.trans hb, r⟩, h2⟩

theorem MapP.fun {w : World} {b n : Nat} {f g : Int -> Option Nat} (h : MapP w b n f) (e : ∀ p, I64 p -> f p = g p) : MapP w b n g := by
 obtain ⟨D, h1, h2⟩ := h
 exact ⟨D, h1, fun p hp z => by rw [h2 p hp z, e p hp]⟩

theorem MapP.apart {w : World} {b n : Nat} {f : Int -> Option Nat} (h : MapP w b n f) {cs : Array Value} {t : TypeId} {z : Nat × Nat} {g : Nat} (hg : w.heap[g]? = some (.cells cs t z)) : g ≠ b := by
 obtain ⟨D, ⟨es, clock, hb, _⟩, _⟩ := h
 intro e
 rw [e, hb] at hg
 cases hg

theorem lit_ne {x : Nat} (h : ∀ z : DataW Unit, DataW.lit (.int .i64 (x : Int)) = z) : False := by
 have := h (.map [])
 cases this

theorem litO_inj {x y : Nat} (h : DataW.lit (H := Unit) (.int .i64 (x : Int)) = .lit (.int .i64 (y : Int))) : x = y := by
 simp only [DataW.lit.injEq, Lit.int.injEq, true_and] at h
 omega

theorem MapP.lookC {w : World} {b n : Nat} {f : Int -> Option Nat} (h : MapP w b n f) {p : Int} (hp : I64 p) (c : Bool) : (Instr.lookup 69 (.map (some b)) (.int .i64 p) c).run Tryz.prog w = .ok (if c then .tuple #[ptrO (f p), .bool (f p).isSome] else ptrO (f p)) w := by
 obtain ⟨D, ⟨es, clock, hb, F, _, rfl⟩, h2⟩ := h
 rcases Maps.fit_look c dirKeys Tryz.underlying69 (dirZero w) hb F (keyOf_int_mk Tryz.underlying3 (wf64p hp)) with ⟨hrun, _, hat⟩ | ⟨e0, y, _, _, hrun, hRv, hat, _⟩
 · have e : f p = none := by
     cases e : f p with
     | none => rfl
     | some x =>
       refine (lit_ne (x := x) fun z => ?_).elim
       rw [<- hat z, h2 p hp z, e]
       rfl
   rw [hrun, e]
   rfl
 · obtain ⟨x, hv, rfl⟩ := ptrElem_inv hRv
   have e : f p = some x := by
     cases e : f p with
     | none =>
       refine (lit_ne (x := x) fun z => ?_).elim
       have h3 := hat z
       rw [h2 p hp z, e] at h3
       exact h3.symm
     | some x' =>
       have h3 := hat (.map [])
       rw [h2 p hp, e] at h3
       rw [litO_inj h3]
   rw [hrun, e, hv]
   rfl

theorem MapP.look {w : World} {b n : Nat} {f : Int -> Option Nat} (h : MapP w b n f) {p : Int} (hp : I64 p) : (Instr.lookup 69 (.map (some b)) (.int .i64 p) true).run Tryz.prog w = .ok (.tuple #[ptrO (f p), .bool (f p).isSome]) w := h.lookC hp true

theorem MapP.look1 {w : World} {b n : Nat} {f : Int -> Option Nat} (h : MapP w b n f) {p : Int} (hp : I64 p) : (Instr.lookup 69 (.map (some b)) (.int .i64 p) false).run Tryz.prog w = .ok (ptrO (f p)) w := h.lookC hp false

theorem MapP.put {w : World} {b n : Nat} {f : Int -> Option Nat} (h : MapP w b n f) {p : Int} (x : Nat) (hp : I64 p) (hn : n <= 10000000) :
   ∃ w', (Instr.mapUpdate 69 (.map (some b)) (.int .i64 p) (.pointer (some ⟨x, 0, none⟩))).run Tryz.prog w = .ok () w' ∧ MapP w' b (n + 1) (fun m => if m = p then some x else f m) ∧ w.grownBy w' (some b) := by
 obtain ⟨D, h1, h2⟩ := h
 have hm : IsMap D := by obtain ⟨es, clock, hb, F, hs, hD⟩ := h1; exact ⟨_, hD⟩
 obtain ⟨w', hrun, ho, hg⟩ := h1.update dirKeys Tryz.underlying69 (by unfold maxLen; omega) (keyOf_int_mk Tryz.underlying3 (wf64p hp)) (ptrElem_mk x)
 refine ⟨w', hrun, ⟨_, ho, fun q hq z => ?_⟩, hg⟩
 show _ = litO z (if q = p then some x else f q)
 by_cases e : q = p
 · rw [if_pos e, e, atKey_put_same hm (by first | exact trivial | simp [WideAt.IsKeyLit])]
   rfl
 · rw [if_neg e, atKey_put_other (by intro h; injection h with _ h; exact e h), h2 q hq z]

theorem MapP.del {w : World} {b n : Nat} {f : Int -> Option Nat} (h : MapP w b n f) {p : Int} (hp : I64 p) (ty : TypeId) :
   ∃ w', (Builtin.delete_ #[69, 3] ty #[.map (some b), .int .i64 p]).run Tryz.prog w = .ok (.tuple #[]) w' ∧ MapP w' b n (fun m => if m = p then none else f m) ∧ w.grownBy w' (some b) := by
 obtain ⟨D, ⟨es, clock, hb, F, hs, rfl⟩, h2⟩ := h
 obtain ⟨es', hrun, F', hs', hd, _⟩ := Maps.fit_drop (ty := ty) dirKeys Tryz.underlying69 hb F (keyOf_int_mk Tryz.underlying3 (wf64p hp))
 refine ⟨_, hrun, ⟨_, ⟨es', clock, heap_setBlock_same hb _, F', Nat.le_trans hs' hs, rfl⟩, fun q hq z => ?_⟩, ⟨rfl, rfl, rfl, by simp [setBlock], fun i _ hi => heap_setBlock_other hb _ (fun e => hi (by rw [e]))⟩⟩
 rw [hd]
 show ((DataW.map ((es.toList.map (rg Tryz.prog 3 ptrElem)).foldr DataW.insert [])).del (.int .i64 p)).atKey (.int .i64 q) z = _
 show _ = litO z (if q = p then none else f q)
 by_cases e : q = p
 · rw [if_pos e, e, atKey_del_same]
   rfl
 · rw [if_neg e, atKey_del_other (by intro h; injection h with _ h; exact e h), h2 q hq z]

theorem MapP.clear {w : World} {b n : Nat} {f : Int -> Option Nat} (h : MapP w b n f) (ty : TypeId) :
   ∃ w', (Builtin.clear_ #[69] ty #[.map (some b)]).run Tryz.prog w = .ok (.tuple #[]) w' ∧ MapP w' b 0 (fun _ => none) ∧ w.grownBy w' (some b) := by
 obtain ⟨D, ⟨es, clock, hb, F, hs, rfl⟩, h2⟩ := h
 refine ⟨setBlock w b (.map #[] clock), ?_, ⟨.map [], ⟨#[], clock, heap_setBlock_same hb _, ⟨by simp, stamped_empty clock, by simp⟩, Nat.le_refl _, rfl⟩, fun _ _ _ => rfl⟩, ⟨rfl, rfl, rfl, by simp [setBlock], fun i _ hi => heap_setBlock_other hb _ (fun e => hi (by rw [e]))⟩⟩
 simp [Builtin.clear_, run_underlying Tryz.underlying69, MapKept.run_getObj_map hb, MapKept.run_setObj_map _ hb, Result.andThen, setBlock]

theorem mergeD_empty {D : DataW Unit} (c : Maps.CanonK (Maps.KeysOf Tryz.prog 3) D) : Lib.mergeD (.map []) D = D := by
 refine (merged_eq dirKeys.one (left := fun _ => false) ⟨fun k => ?_, fun k z => ?_⟩ (fun _ => rfl) (c.canon dirKeys.one) ⟨[], rfl, List.Pairwise.nil, fun p hp => by cases hp⟩ c).symm
 · show Maps.has D k = (false || (Maps.has D k && true))
   cases Maps.has D k <;> rfl
 · cases e : Maps.has D k with
   | true => rfl
   | false =>
     rw [atKey_of_not_has e]
     rfl

theorem cloneM_any {w : World} {b n : Nat} {f : Int -> Option Nat} (h : MapP w b n f) :
   Calls Tryz.prog 148 #[.map (some b)] w fun e w' => e = .returned (.map (some w.heap.size)) ∧ MapP w' w.heap.size n f ∧ w'.heap.size = w.heap.size + 1 ∧ Below w.heap.size w w' := by
 obtain ⟨D, ⟨es, clock, hb, r⟩, h2⟩ := h
 refine (AnyW.maps_Clone layW b es clock w hb).mono fun e w' ⟨he, hw⟩ => ?_
 subst hw
 exact ⟨he, ⟨D, ⟨es, clock, (MapKept.heap_alloc w _).1, r⟩, h2⟩, by simp, (Below.refl _ w).alloc (Nat.le_refl _) _⟩

theorem copy_any {w : World} {bd bs n : Nat} {f : Int -> Option Nat} (hd : MapP w bd 0 (fun _ => none)) (hs : MapP w bs n f) (hne : bd ≠ bs) (hn : n <= 10000000) :
   Calls Tryz.prog 80 #[.map (some bd), .map (some bs)] w fun e w' => e = .returned (.tuple #[]) ∧ MapP w' bd n f ∧ w.grownBy w' (some bd) := by
 obtain ⟨Dd, h1, h2⟩ := hd
 obtain ⟨Ds, h3, h4⟩ := hs
 have hsz : Maps.size Ds <= n := by
   obtain ⟨es, clock, hb, F, hs, rfl⟩ := h3
   rw [size_eq, length_sorted]
   simpa using hs
 have hD : Dd = .map [] := by
   obtain ⟨es, clock, hb, F, hs, rfl⟩ := h1
   have : es = #[] := by simpa using hs
   subst this
   rfl
 subst hD
 refine (AnyX.maps_Copy layX dirKeys ptrElem bd bs 0 n (.map []) Ds w h1 h3 hne (by unfold maxLen; omega)).mono fun e w' ⟨he, ho, _, hg⟩ => ?_
 rw [mergeD_empty (h3.canonK dirKeys)] at ho
 exact ⟨he, ⟨Ds, ho.mono (by omega), h4⟩, hg⟩

open Go.RowKit

structure Only (F : Nat -> Prop) (w w' : World) : Prop where
 os : w'.os = w.os
 tape : w'.tape = w.tape
 output : w'.output = w.output
 size : w.heap.size <= w'.heap.size
 block : ∀ k, k < w.heap.size -> ¬ F k -> w'.heap[k]? = w.heap[k]?

theorem Only.refl (F : Nat -> Prop) (w : World) : Only F w w := ⟨rfl, rfl, rfl, Nat.le_refl _, fun _ _ _ => rfl⟩

theorem Only.trans {F G : Nat -> Prop} {a b c : World} (h : Only F a b) (k : Only G b c) (hG : ∀ x, x < a.heap.size -> G x -> F x) : Only F a c :=
 ⟨k.os.trans h.os, k.tape.trans h.tape, k.output.trans h.output, Nat.le_trans h.size k.size, fun i hi hn => (k.block i (Nat.lt_of_lt_of_le hi h.size) (fun hg => hn (hG i hi hg))).trans (h.block i hi hn)⟩

theorem Only.mono {F G : Nat -> Prop} {w w' : World} (h : Only F w w') (hG : ∀ k, F k -> G k) : Only G w w' := ⟨h.os, h.tape, h.output, h.size, fun k hk hn => h.block k hk fun hf => hn (hG k hf)⟩

theorem Only.ofGrown {F : Nat -> Prop} {w w' : World} {row : Option Nat} (h : w.grownBy w' row) (hr : ∀ k, row = some k -> k < w.heap.size -> F k) : Only F w w' :=
 ⟨h.os, h.tape, h.output, h.size, fun k hk hn => h.block k hk fun e => hn (hr k e.symm hk)⟩

theorem Only.ofBelow {F : Nat -> Prop} {w w' : World} (h : Below w.heap.size w w') : Only F w w' := ⟨h.os, h.tape, h.output, h.size, fun k hk _ => h.block k hk⟩

theorem Only.below {F : Nat -> Prop} {w w' : World} {B : Nat} (h : Only F w w') (hB : B <= w.heap.size) (hF : ∀ k, F k -> B <= k) : Below B w w' :=
 ⟨h.os, h.tape, h.output, h.size, fun k hk => h.block k (Nat.lt_of_lt_of_le hk hB) fun hf => by have := hF k hf; omega⟩

theorem Only.setCell {F : Nat -> Prop} {a w : World} (h : Only F a w) {b : Nat} (i : Nat) (hb : b < a.heap.size -> F b) (x : Value) : Only F a (w.setCell ⟨b, i, none⟩ x) := by
 have hb0 := (Below.refl 0 w).setCell (p := ⟨b, i, none⟩) (Nat.zero_le _) x
 refine ⟨hb0.os.trans h.os, hb0.tape.trans h.tape, hb0.output.trans h.output, Nat.le_trans h.size hb0.size, fun k hk hn => ?_⟩
 rw [Below.heap_setCell _ _ _ _ (show k ≠ b by rintro rfl; exact hn (hb hk))]
 exact h.block k hk hn

theorem Only.alloc {F : Nat -> Prop} {a w : World} (h : Only F a w) (o : Obj) : Only F a (w.alloc o) :=
 h.trans (G := fun _ => False) (Only.ofBelow ((Below.refl _ _).alloc (Nat.le_refl _) o)) (fun _ _ hf => hf.elim)

theorem Only.drewN {F : Nat -> Prop} {a w : World} (h : Only F a w) (n : Nat) : Only F a (w.drewN n) := ⟨h.os, h.tape, h.output, h.size, h.block⟩

theorem Rd.only {w w' : World} {v : Value} {l : List UInt8} (h : Rd w v l) {F : Nat -> Prop} (ho : Only F w w') (hv : ∀ k, v.ownBlock = some k -> ¬ F k) : Rd w' v l := by
 obtain ⟨ao, cap, rfl, h2, h3, hn, h4⟩ := h
 refine ⟨ao, cap, rfl, h2, h3, hn, ?_⟩
 rcases h4 with h4 | ⟨b, off, rfl, h6⟩
 · exact .inl h4
 · refine .inr ⟨b, off, rfl, fun j hj => ?_⟩
   have hc := h6 j hj
   have hlt : b < w.heap.size := World.block_lt_of_cell? w ⟨b, off + j, none⟩ hc
   rw [World.cell?_of_block (a := ⟨b, off + j, none⟩) (ho.block b hlt (hv b rfl))]
   exact hc

theorem RdI.only {w w' : World} {v : Value} {l : List Int} (h : RdI w v l) {F : Nat -> Prop} (ho : Only F w w') (hv : ∀ k, v.ownBlock = some k -> ¬ F k) : RdI w' v l := by
 obtain ⟨ao, cap, rfl, h2, h3, hn, hi, h4⟩ := h
 refine ⟨ao, cap, rfl, h2, h3, hn, hi, ?_⟩
 rcases h4 with h4 | ⟨b, off, rfl, h6⟩
 · exact .inl h4
 · refine .inr ⟨b, off, rfl, fun j hj => ?_⟩
   have hc := h6 j hj
   have hlt : b < w.heap.size := World.block_lt_of_cell? w ⟨b, off + j, none⟩ hc
   rw [World.cell?_of_block (a := ⟨b, off + j, none⟩) (ho.block b hlt (hv b rfl))]
   exact hc

theorem RdI.onlyE {w w' : World} {v : Value} {l : List Int} (h : RdI w v l) {F : Nat -> Prop} (ho : Only F w w') (hv : l = [] ∨ ∀ k, v.ownBlock = some k -> ¬ F k) : RdI w' v l := by
 rcases hv with rfl | hv
 · obtain ⟨ao, cap, rfl, h2, h3, hn, hi, h4⟩ := h
   exact ⟨ao, cap, rfl, h2, h3, hn, hi, .inl rfl⟩
 · exact h.only ho hv

def Bk (t : TypeId) (w : World) (b : Nat) (cs : Array Value) : Prop := w.heap[b]? = some (.cells cs t (0, 0))

theorem Bk.lt {t : TypeId} {w : World} {b : Nat} {cs : Array Value} (h : Bk t w b cs) : b < w.heap.size := (Array.getElem?_eq_some_iff.1 h).1

theorem Bk.keep {t : TypeId} {w w' : World} {b : Nat} {cs : Array Value} (h : Bk t w b cs) (hk : w'.heap[b]? = w.heap[b]?) : Bk t w' b cs := hk.trans h

theorem Bk.cell {t : TypeId} {w : World} {b : Nat} {cs : Array Value} (h : Bk t w b cs) (j : Nat) {x : Value} (hx : cs[j]? = some x) : w.cell? ⟨b, j, none⟩ = some x ∧ w.frozen? ⟨b, j, none⟩ = false :=
 ⟨(cell_of_row w b j _ _ _ h).trans hx, frozen_of_row w b j _ _ h⟩

theorem Bk.set {t : TypeId} {w : World} {b : Nat} {cs : Array Value} (h : Bk t w b cs) (j : Nat) (x : Value) : Bk t (w.setCell ⟨b, j, none⟩ x) b (cs.setIfInBounds j x) := by
 have := heap_setCell_same w b j _ _ x h
 unfold Bk
 simpa using this

theorem Bk.other {t : TypeId} {w : World} {b : Nat} {cs : Array Value} (h : Bk t w b cs) (c j : Nat) (x : Value) (hne : b ≠ c) : Bk t (w.setCell ⟨c, j, none⟩ x) b cs :=
 (Below.heap_setCell _ _ _ _ hne).trans h

theorem Bk.ne {t t' : TypeId} {w : World} {b b' : Nat} {cs cs' : Array Value} (h : Bk t w b cs) (h' : Bk t' w b' cs') (ht : t ≠ t') : b ≠ b' := by
 rintro rfl
 unfold Bk at h h'
 rw [h] at h'
 simp only [Option.some.injEq, Obj.cells.injEq] at h'
 exact ht h'.2.1

theorem Bk.neMap {t : TypeId} {w : World} {b m n : Nat} {cs : Array Value} {f : Int -> Option Nat} (h : Bk t w b cs) (hm : MapP w m n f) : b ≠ m := hm.apart h

theorem ownBk {w : World} {base n : Nat} {t : TypeId} {v : Value} {xs : List Value} (h : w.ownsRow base t 1 v n xs) {g : Nat} (hg : v.ownBlock = some g) : ∃ cs, Bk t w g cs := by
 rcases h.2 with ⟨hv, _⟩ | ⟨g', cap, cur, hv, _, hb, _⟩
 · rw [hv] at hg; cases hg
 · rw [hv] at hg
   obtain rfl : g' = g := by simpa [Value.ownBlock] using hg
   exact ⟨cur, hb⟩

theorem ownsRow_keep {w w' : World} {base n s : Nat} {t : TypeId} {v : Value} {xs : List Value} (h : w.ownsRow base t s v n xs) (hk : ∀ g, v.ownBlock = some g -> w'.heap[g]? = w.heap[g]?) : w'.ownsRow base t s v n xs := by
 obtain ⟨h1, h2⟩ := h
 refine ⟨h1, ?_⟩
 rcases h2 with h2 | ⟨g, cap, cur, hv, hbg, hg, r⟩
 · exact .inl h2
 · exact .inr ⟨g, cap, cur, hv, hbg, (hk g (by rw [hv]; rfl)).trans hg, r⟩

theorem Own.shape {w : World} {B : Nat} {v : Value} {l : List UInt8} (h : Own w B v l) : ∃ ao cap, v = .slice ao l.length cap := by
 obtain ⟨ao, cap, hv, _⟩ := h.rd
 exact ⟨ao, cap, hv⟩

theorem Own.front {w : World} {B : Nat} {ao : Option Addr} {n cap : Nat} {l : List UInt8} (h : Own w B (.slice ao n cap) l) (k : Nat) (hk : k <= l.length) : Own w B (.slice ao k cap) (l.take k) := by
 obtain ⟨h1, h2⟩ := h
 have hlen : (l.take k).length = k := by simp; omega
 refine ⟨by rw [byteCells_length, Nat.mul_one], ?_⟩
 rcases h2 with ⟨hv, hn⟩ | ⟨g, cp, cur, hv, hbg, hg, hnc, hcm, hcs, ht⟩
 · left
   simp only [Value.slice.injEq] at hv
   obtain ⟨rfl, rfl, rfl⟩ := hv
   have : k = 0 := by omega
   subst this
   exact ⟨rfl, by rw [hlen]⟩
 · right
   simp only [Value.slice.injEq] at hv
   obtain ⟨rfl, hnn, rfl⟩ := hv
   refine ⟨g, cap, cur, by rw [hlen], hbg, hg, by rw [hlen]; omega, hcm, hcs, ?_⟩
   rw [Nat.mul_one] at ht ⊢
   rw [hlen]
   have e : Lib.byteCells (l.take k) = (Lib.byteCells l).take k := by simp [Lib.byteCells]
   rw [e, <- ht, List.take_take, Nat.min_eq_left hk]

structure FileV (w : World) (b : Nat) (v : Value) (x : Fl) : Prop where
 box : Bk 112 w b #[v, .int .i64 (x.k : Int)]
 own : Own w 0 v x.b

theorem FileV.keep {w w' : World} {b : Nat} {v : Value} {x : Fl} (h : FileV w b v x) (h1 : w'.heap[b]? = w.heap[b]?) (h2 : ∀ g, v.ownBlock = some g -> w'.heap[g]? = w.heap[g]?) : FileV w' b v x :=
 ⟨h.box.keep h1, ownsRow_keep h.own h2⟩

abbrev ptr (b : Nat) : Value := .pointer (some ⟨b, 0, none⟩)

def ChV (F : Nat -> Prop) (w : World) (ps : Nat -> Nat) : Ch -> Value -> Prop
 | .give n f, v => ∃ b1 b2, v = .func (.func 111) #[] #[ptr b2, ptr b1] ∧ Bk 3 w b1 #[.int .i64 n] ∧ Bk 109 w b2 #[ptr (ps f)] ∧ F b1 ∧ F b2
 | .move n tz f, v => ∃ b1 b2 b3, v = .func (.func 146) #[] #[ptr b3, ptr b2, ptr b1] ∧ Bk 3 w b1 #[.int .i64 n] ∧ Bk 3 w b2 #[.int .i64 tz] ∧ Bk 109 w b3 #[ptr (ps f)] ∧ F b1 ∧ F b2 ∧ F b3
 | .take n, v => ∃ b1, v = .func (.func 160) #[] #[ptr b1] ∧ Bk 3 w b1 #[.int .i64 n] ∧ F b1

def chOf : Ch -> Option Nat
 | .give _ f => some f
 | .move _ _ f => some f
 | .take _ => none

theorem ChV.keep {F F' : Nat -> Prop} {w w' : World} {ps ps' : Nat -> Nat} {c : Ch} {v : Value} (h : ChV F w ps c v) (hF : ∀ k, F k -> F' k) (hp : ∀ f, chOf c = some f -> ps' f = ps f)
   (hk : ∀ k cs, F k -> (Bk 3 w k cs ∨ Bk 109 w k cs) -> w'.heap[k]? = w.heap[k]?) : ChV F' w' ps' c v := by
 cases c with
 | give n f =>
   obtain ⟨b1, b2, rfl, h1, h2, f1, f2⟩ := h
   exact ⟨b1, b2, rfl, h1.keep (hk _ _ f1 (.inl h1)), by rw [hp f rfl]; exact h2.keep (hk _ _ f2 (.inr h2)), hF _ f1, hF _ f2⟩
 | move n tz f =>
   obtain ⟨b1, b2, b3, rfl, h1, h2, h3, f1, f2, f3⟩ := h
   exact ⟨b1, b2, b3, rfl, h1.keep (hk _ _ f1 (.inl h1)), h2.keep (hk _ _ f2 (.inl h2)), by rw [hp f rfl]; exact h3.keep (hk _ _ f3 (.inr h3)), hF _ f1, hF _ f2, hF _ f3⟩
 | take n =>
   obtain ⟨b1, rfl, h1, f1⟩ := h
   exact ⟨b1, rfl, h1.keep (hk _ _ f1 (.inl h1)), hF _ f1⟩

structure Lay where
 now : Nat
 kept : Nat
 wv : Value
 cs : List Value
 ps : Nat -> Nat
 vs : Nat -> Value

structure RestL (F : Nat -> Prop) (w : World) (L : Lay) (d : Dk) (N : Nat) : Prop where
 now : MapP w L.now N (fun n => (look (dirD d) n).map L.ps)
 kept : MapP w L.kept N (fun n => (look d.kept n).map L.ps)
 row : w.ownsRow 0 115 1 L.wv L.cs.length L.cs
 many : L.cs.length = d.waits.length
 wait : ∀ (i : Nat) c v, d.waits[i]? = some c -> L.cs[i]? = some v -> ChV F w L.ps c v
 file : ∀ i, i < d.files.length -> FileV w (L.ps i) (L.vs i) (fl d.files i)
 psn : ∀ i j, i < d.files.length -> j < d.files.length -> i ≠ j -> L.ps i ≠ L.ps j
 vsn : ∀ i j, i < d.files.length -> j < d.files.length -> i ≠ j -> ∀ g, (L.vs i).ownBlock = some g -> (L.vs j).ownBlock ≠ some g
 nk : L.now ≠ L.kept
 fn : F L.now
 fk : F L.kept
 fw : ∀ g, L.wv.ownBlock = some g -> F g
 fp : ∀ i, i < d.files.length -> F (L.ps i)
 fv : ∀ i, i < d.files.length -> ∀ g, (L.vs i).ownBlock = some g -> F g

def headC (L : Lay) (d : Dk) (u : Int) : Array Value := #[.int .i64 d.room, .int .i64 u, .map (some L.now), .map (some L.kept), L.wv, .int .i64 d.power]

structure DiskL (F : Nat -> Prop) (w : World) (p : Nat) (L : Lay) (d : Dk) (u : Int) (N : Nat) : Prop where
 head : Bk 73 w p (headC L d u)
 rest : RestL F w L d N
 fh : F p
 lt : ∀ k, F k -> k < w.heap.size

theorem RestL.keep {F : Nat -> Prop} {w w' : World} {L : Lay} {d : Dk} {N p : Nat} {cs : Array Value} (h : RestL F w L d N) (hp : Bk 73 w p cs) (hk : ∀ k, F k -> k ≠ p -> w'.heap[k]? = w.heap[k]?) : RestL F w' L d N where
 now := h.now.keep (hk _ h.fn (hp.neMap h.now).symm)
 kept := h.kept.keep (hk _ h.fk (hp.neMap h.kept).symm)
 row := ownsRow_keep h.row fun g hg => hk g (h.fw g hg) (by obtain ⟨cs', hb⟩ := ownBk h.row hg; exact hb.ne hp (by decide))
 many := h.many
 wait := fun i c v h1 h2 => (h.wait i c v h1 h2).keep (fun _ hf => hf) (fun _ _ => rfl) (fun k cs' hf hb => hk k hf (by rcases hb with hb | hb <;> exact hb.ne hp (by decide)))
 file := fun i hi => (h.file i hi).keep (hk _ (h.fp i hi) ((h.file i hi).box.ne hp (by decide))) fun g hg => hk g (h.fv i hi g hg) (by obtain ⟨cs', hb⟩ := ownBk (h.file i hi).own hg; exact hb.ne hp (by decide))
 psn := h.psn
 vsn := h.vsn
 nk := h.nk
 fn := h.fn
 fk := h.fk
 fw := h.fw
 fp := h.fp
 fv := h.fv

theorem RestL.mono {F : Nat -> Prop} {w : World} {L : Lay} {d : Dk} {N N' : Nat} (h : RestL F w L d N) (hN : N <= N') : RestL F w L d N' :=
 ⟨h.now.mono hN, h.kept.mono hN, h.row, h.many, h.wait, h.file, h.psn, h.vsn, h.nk, h.fn, h.fk, h.fw, h.fp, h.fv⟩

theorem DiskL.setHead {F : Nat -> Prop} {w : World} {p : Nat} {L : Lay} {d : Dk} {u : Int} {N : Nat} (h : DiskL F w p L d u N) (j : Nat) (x : Value) {d' : Dk} {u' : Int} (hd : d'.files = d.files ∧ d'.kept = d.kept ∧ d'.waits = d.waits)
   (he : (headC L d u).setIfInBounds j x = headC L d' u') : DiskL F (w.setCell ⟨p, j, none⟩ x) p L d' u' N := by
 refine ⟨by rw [<- he]; exact h.head.set j x, ?_, h.fh, fun k hk => ?_⟩
 · have hr := h.rest.keep h.head (w' := w.setCell ⟨p, j, none⟩ x) (fun k _ hne => Below.heap_setCell _ _ _ _ hne)
   obtain ⟨rm, fs, kp, ws, pw⟩ := d
   obtain ⟨rm', fs', kp', ws', pw'⟩ := d'
   obtain ⟨rfl, rfl, rfl⟩ := hd
   exact ⟨hr.now, hr.kept, hr.row, hr.many, hr.wait, hr.file, hr.psn, hr.vsn, hr.nk, hr.fn, hr.fk, hr.fw, hr.fp, hr.fv⟩
 · have := h.lt k hk
   have hs := ((Below.refl 0 w).setCell (p := ⟨p, j, none⟩) (Nat.zero_le _) x).size
   omega

theorem DiskL.keep {F : Nat -> Prop} {w w' : World} {p : Nat} {L : Lay} {d : Dk} {u : Int} {N : Nat} (h : DiskL F w p L d u N) (hk : ∀ k, F k -> w'.heap[k]? = w.heap[k]?) (hs : w.heap.size <= w'.heap.size) : DiskL F w' p L d u N :=
 ⟨h.head.keep (hk p h.fh), h.rest.keep h.head (fun k hf _ => hk k hf), h.fh, fun k hf => by have := h.lt k hf; omega⟩

theorem DiskL.only {F G : Nat -> Prop} {w w' : World} {p : Nat} {L : Lay} {d : Dk} {u : Int} {N : Nat} (h : DiskL F w p L d u N) (ho : Only G w w') (hFG : ∀ k, F k -> ¬ G k) : DiskL F w' p L d u N :=
 h.keep (fun k hf => ho.block k (h.lt k hf) (hFG k hf)) ho.size

theorem DiskL.cells {F : Nat -> Prop} {w : World} {p : Nat} {L : Lay} {d : Dk} {u : Int} {N : Nat} (h : DiskL F w p L d u N) :
   (w.cell? ⟨p, 0, none⟩ = some (.int .i64 d.room) ∧ w.cell? ⟨p, 1, none⟩ = some (.int .i64 u) ∧ w.cell? ⟨p, 2, none⟩ = some (.map (some L.now)) ∧ w.cell? ⟨p, 3, none⟩ = some (.map (some L.kept)) ∧ w.cell? ⟨p, 4, none⟩ = some L.wv ∧ w.cell? ⟨p, 5, none⟩ = some (.int .i64 d.power)) ∧
   w.frozen? ⟨p, 1, none⟩ = false ∧ w.frozen? ⟨p, 3, none⟩ = false ∧ w.frozen? ⟨p, 4, none⟩ = false ∧ w.frozen? ⟨p, 5, none⟩ = false :=
 ⟨⟨(h.head.cell 0 rfl).1, (h.head.cell 1 rfl).1, (h.head.cell 2 rfl).1, (h.head.cell 3 rfl).1, (h.head.cell 4 rfl).1, (h.head.cell 5 rfl).1⟩, (h.head.cell 1 rfl).2, (h.head.cell 3 rfl).2, (h.head.cell 4 rfl).2, (h.head.cell 5 rfl).2⟩

theorem DiskL.setFile {F F' : Nat -> Prop} {w w' : World} {p : Nat} {L : Lay} {d : Dk} {u : Int} {N f : Nat} (h : DiskL F w p L d u N) (hf : f < d.files.length) {v' : Value} {x' : Fl}
   (hk : ∀ k, F k -> k ≠ L.ps f -> (L.vs f).ownBlock ≠ some k -> w'.heap[k]? = w.heap[k]?)
   (hv : FileV w' (L.ps f) v' x') (hr : v'.ownBlock = (L.vs f).ownBlock ∨ ∀ g, v'.ownBlock = some g -> w.heap.size <= g)
   (hF : ∀ k, F k -> F' k) (hF' : ∀ g, v'.ownBlock = some g -> F' g) (hlt : ∀ k, F' k -> k < w'.heap.size) :
   DiskL F' w' p { L with vs := fun i => if i = f then v' else L.vs i } { d with files := d.files.set f x' } u N := by
 have h0 := h.rest
 have hb0 := (h0.file f hf).box
 have hne : ∀ {t : TypeId} {k : Nat} {cs : Array Value}, Bk t w k cs -> F k -> t ≠ 112 -> t ≠ 5 -> w'.heap[k]? = w.heap[k]? := fun {t k cs} hb hfk h1 h2 => hk k hfk (hb.ne hb0 h1) fun hg => by
   obtain ⟨cs', hb'⟩ := ownBk (h0.file f hf).own hg
   exact (hb.ne hb' h2) rfl
 have hmap : ∀ {k n : Nat} {g : Int -> Option Nat}, MapP w k n g -> F k -> w'.heap[k]? = w.heap[k]? := fun {k n g} hm hfk => hk k hfk (hb0.neMap hm).symm fun hg => by
   obtain ⟨cs', hb'⟩ := ownBk (h0.file f hf).own hg
   exact (hb'.neMap hm) rfl
 have hlen : (d.files.set f x').length = d.files.length := List.length_set ..
 refine ⟨h.head.keep (hne h.head h.fh (by decide) (by decide)), ?_, hF _ h.fh, hlt⟩
 refine ⟨h0.now.keep (hmap h0.now h0.fn), h0.kept.keep (hmap h0.kept h0.fk), ownsRow_keep h0.row fun g hg => ?_, h0.many, fun i c v h1 h2 => ?_, fun i hi => ?_, fun i j hi hj => ?_, fun i j hi hj hij => ?_, h0.nk, hF _ h0.fn, hF _ h0.fk, fun g hg => hF g (h0.fw g hg), fun i hi => hF _ (h0.fp i (by rw [<- hlen]; exact hi)), fun i hi => ?_⟩
 · obtain ⟨cs', hb⟩ := ownBk h0.row hg
   exact hne hb (h0.fw g hg) (by decide) (by decide)
 · exact (h0.wait i c v h1 h2).keep hF (fun _ _ => rfl) fun k cs' hfk hb => by rcases hb with hb | hb <;> exact hne hb hfk (by decide) (by decide)
 · have hi' : i < d.files.length := by rw [<- hlen]; exact hi
   show FileV w' (L.ps i) (if i = f then v' else L.vs i) (fl (d.files.set f x') i)
   by_cases e : i = f
   · rw [if_pos e, e, fl_set_same hf]
     exact hv
   · rw [if_neg e, fl_set_other (fun e' => e e'.symm)]
     refine (h0.file i hi').keep (hk _ (h0.fp i hi') (h0.psn i f hi' hf e) fun hg => ?_) fun g hg => hk g (h0.fv i hi' g hg) ?_ (fun hg' => h0.vsn i f hi' hf e g hg hg')
     · obtain ⟨cs', hb'⟩ := ownBk (h0.file f hf).own hg
       exact ((h0.file i hi').box.ne hb' (by decide)) rfl
     · obtain ⟨cs', hb'⟩ := ownBk (h0.file i hi').own hg
       exact hb'.ne hb0 (by decide)
 · rw [hlen] at hi hj
   exact h0.psn i j hi hj
 · rw [hlen] at hi hj
   have hold : ∀ i, i < d.files.length -> i ≠ f -> ∀ g, (L.vs i).ownBlock = some g -> v'.ownBlock ≠ some g := fun i hi hif g hg hg' => by
     rcases hr with hr | hr
     · exact h0.vsn i f hi hf hif g hg (by rw [<- hr]; exact hg')
     · have h1 := hr g hg'
       have h2 := h.lt g (h0.fv i hi g hg)
       omega
   show ∀ g, (if i = f then v' else L.vs i).ownBlock = some g -> (if j = f then v' else L.vs j).ownBlock ≠ some g
   intro g
   by_cases e1 : i = f
   · rw [if_pos e1, if_neg (by rw [<- e1]; exact Ne.symm hij)]
     exact fun hg hg' => hold j hj (by rw [<- e1]; exact Ne.symm hij) g hg' hg
   · rw [if_neg e1]
     by_cases e2 : j = f
     · rw [if_pos e2]
       exact hold i hi e1 g
     · rw [if_neg e2]
       exact h0.vsn i j hi hj hij g
 · rw [hlen] at hi
   show ∀ g, (if i = f then v' else L.vs i).ownBlock = some g -> F' g
   intro g
   by_cases e : i = f
   · rw [if_pos e]
     exact hF' g
   · rw [if_neg e]
     exact fun hg => hF g (h0.fv i hi g hg)

structure Bnd (d : Dk) (N T : Nat) : Prop where
 files : d.files.length <= N
 names : d.kept.length + d.waits.length <= N
 bytes : ∀ x ∈ d.files, x.b.length <= T

def Dsk (F : Nat -> Prop) (w : World) (p : Nat) (d : Dk) (N T : Nat) : Prop :=
 ∃ L, DiskL F w p L d (usedD d) N ∧ OkD d ∧ Bnd d N T ∧ I64 d.room ∧ I64 d.power

theorem Dsk.only {F G : Nat -> Prop} {w w' : World} {p : Nat} {d : Dk} {N T : Nat} (h : Dsk F w p d N T) (ho : Only G w w') (hFG : ∀ k, F k -> ¬ G k) : Dsk F w' p d N T := by
 obtain ⟨L, h1, h2⟩ := h
 exact ⟨L, h1.only ho hFG, h2⟩

theorem Dsk.below {F : Nat -> Prop} {w w' : World} {p : Nat} {d : Dk} {N T : Nat} (h : Dsk F w p d N T) (hb : Below w.heap.size w w') : Dsk F w' p d N T :=
 h.only (G := fun _ => False) (Only.ofBelow hb) (fun _ _ hf => hf)

end Go.Proofs.YtpopbandpnaicaaGreatDoor

