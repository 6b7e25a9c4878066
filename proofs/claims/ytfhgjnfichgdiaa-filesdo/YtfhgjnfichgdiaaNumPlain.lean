/- Plain mathematics of layer num: groups of seven bits as lists of bytes, zigzag, fixed bytes. No program is named here. -/
import Derived.Lib.VarintMem
import Derived.Lib.Zigzag
import Derived.Lib.Endian
import Derived.Lib.VarintBits
namespace Go.Proofs.Ytfhgjnfichgdiaa

/-- The number that groups spell, the lowest first. -/
def val : List UInt8 → Nat
  | [] => 0
  | c :: r => c.toNat % 128 + 128 * val r

/-- The number whose groups the list begins with (at most n of them), and how many they are. -/
def dec : Nat → List UInt8 → Option (Nat × Nat)
  | 0, _ => none
  | _ + 1, [] => none
  | n + 1, c :: r => if c.toNat < 128 then some (c.toNat, 1) else
    match dec n r with
    | some (v + 1, k) => some (c.toNat % 128 + 128 * (v + 1), k + 1)
    | _ => none

/-- The number of 64 bits whose groups the list begins with, and how many they are; 0 and 0: none. -/
def dec64 (l : List UInt8) : Nat × Nat :=
  match dec 10 l with
  | some (v, k) => if v < 18446744073709551616 then (v, k) else (0, 0)
  | none => (0, 0)

/-- The number below 2^62. -/
def dec62 (l : List UInt8) : Nat × Nat := if (dec64 l).1 < 4611686018427387904 then dec64 l else (0, 0)

theorem val_lt : ∀ l : List UInt8, val l < 128 ^ l.length
  | [] => by simp [val]
  | c :: r => by
    have h := val_lt r
    simp only [val, List.length_cons, Nat.pow_succ]
    omega

theorem val_snoc : ∀ (l : List UInt8) (c : UInt8), val (l ++ [c]) = val l + c.toNat % 128 * 128 ^ l.length
  | [], c => by simp [val]
  | d :: r, c => by
    have h := val_snoc r c
    simp only [List.cons_append, val, List.length_cons, Nat.pow_succ, h]
    rw [Nat.mul_add, ← Nat.mul_assoc, Nat.mul_comm 128 (c.toNat % 128), Nat.mul_assoc, Nat.mul_comm 128 (128 ^ r.length)]
    omega

theorem take_snoc (l : List UInt8) (k : Nat) (h : k < l.length) : l.take (k + 1) = l.take k ++ [l.getD k 0] := by
  rw [List.take_succ_eq_append_getElem h]
  simp [List.getD, h]

theorem val_take (l : List UInt8) (k : Nat) (h : k < l.length) : val (l.take (k + 1)) = val (l.take k) + (l.getD k 0).toNat % 128 * 128 ^ k := by
  rw [take_snoc l k h, val_snoc, List.length_take, Nat.min_eq_left (by omega)]

/-- The first group below 128 is the one with number k: what is decoded. -/
theorem dec_hit : ∀ (k n : Nat) (l : List UInt8), k < n → k < l.length → (∀ j, j < k → 128 ≤ (l.getD j 0).toNat) → (l.getD k 0).toNat < 128 →
    dec n l = if 0 < k ∧ (l.getD k 0).toNat = 0 then none else some (val (l.take (k + 1)), k + 1)
  | 0, n + 1, c :: r, _, _, _, h => by
    have hc : c.toNat < 128 := by simpa using h
    simp only [dec, hc, if_true]
    simp [val]
    omega
  | k + 1, n + 1, c :: r, hn, hl, hj, h => by
    have h0 : 128 ≤ c.toNat := by simpa using hj 0 (by omega)
    have ih := dec_hit k n r (by omega) (by simpa using hl) (fun j hjk => by simpa using hj (j + 1) (by omega)) (by simpa using h)
    have hlast : ((c :: r).getD (k + 1) 0) = r.getD k 0 := by simp
    simp only [dec]
    rw [if_neg (show ¬ c.toNat < 128 by omega), hlast]
    have hlt : k < r.length := by simpa using hl
    have hm : (r.getD k 0).toNat % 128 = (r.getD k 0).toNat := Nat.mod_eq_of_lt (by simpa using h)
    by_cases hz : (r.getD k 0).toNat = 0
    · rw [if_pos ⟨Nat.succ_pos k, hz⟩]
      have hR : dec n r = none ∨ dec n r = some (0, 1) := by
        by_cases hk : 0 < k
        · exact .inl (by rw [ih, if_pos ⟨hk, hz⟩])
        · obtain rfl : k = 0 := by omega
          have hv : val (r.take (0 + 1)) = 0 := by
            rw [val_take r 0 hlt, hz]
            simp [val]
          exact .inr (by rw [ih, if_neg (fun e => hk e.1), hv])
      rcases hR with e | e <;> rw [e]
    · have hv : 0 < val (r.take (k + 1)) := by
        rw [val_take r k hlt, hm]
        have h1 : 0 < 128 ^ k := Nat.pow_pos (by decide)
        have h2 : 0 < (r.getD k 0).toNat * 128 ^ k := Nat.mul_pos (by omega) h1
        omega
      obtain ⟨m, hm'⟩ : ∃ m, val (r.take (k + 1)) = m + 1 := ⟨val (r.take (k + 1)) - 1, by omega⟩
      have e : dec n r = some (m + 1, k + 1) := by rw [ih, if_neg (fun e => hz e.2), hm']
      rw [e, if_neg (fun e => hz e.2)]
      simp only [List.take_succ_cons, val, hm']

/-- No group below 128 among the first n. -/
theorem dec_miss : ∀ (n : Nat) (l : List UInt8), (∀ j, j < n → j < l.length → 128 ≤ (l.getD j 0).toNat) → dec n l = none
  | 0, _, _ => rfl
  | n + 1, [], _ => rfl
  | n + 1, c :: r, h => by
    have h0 : 128 ≤ c.toNat := by simpa using h 0 (by omega) (by simp)
    have ih := dec_miss n r (fun j hn hl => by simpa using h (j + 1) (by omega) (by simpa using hl))
    simp only [dec]
    rw [if_neg (by omega), ih]

/-- What was put is got again, whatever stands behind it. -/
theorem dec_uvarint : ∀ (n u : Nat) (t : List UInt8), (Lib.uvarint u).length ≤ n → dec n (Lib.uvarint u ++ t) = some (u, (Lib.uvarint u).length)
  | 0, u, _, h => by have := Lib.uvarint_pos u; omega
  | n + 1, u, t, h => by
    by_cases hu : u < 128
    · rw [Lib.uvarint_small hu]
      have e : (u.toUInt8).toNat = u := Lib.toUInt8_toNat (by omega)
      simp only [List.cons_append, dec, e, hu, if_true]
      simp
    · rw [Lib.uvarint_big (by omega)] at h ⊢
      have e : ((u % 128 + 128).toUInt8).toNat = u % 128 + 128 := Lib.toUInt8_toNat (by omega)
      have ih := dec_uvarint n (u / 128) t (by simpa using h)
      obtain ⟨m, hm⟩ : ∃ m, u / 128 = m + 1 := ⟨u / 128 - 1, by omega⟩
      rw [hm] at ih ⊢
      simp only [List.cons_append, dec, e]
      rw [if_neg (by omega), ih]
      simp only [List.length_cons, Option.some.injEq, Prod.mk.injEq, and_true]
      omega

/-- What is decoded is put as just these bytes. -/
theorem dec_sound : ∀ (n : Nat) (l : List UInt8) (v k : Nat), dec n l = some (v, k) → k ≤ l.length ∧ 1 ≤ k ∧ l.take k = Lib.uvarint v
  | 0, _, _, _, h => by simp [dec] at h
  | n + 1, [], _, _, h => by simp [dec] at h
  | n + 1, c :: r, v, k, h => by
    simp only [dec] at h
    by_cases hc : c.toNat < 128
    · rw [if_pos hc] at h
      simp only [Option.some.injEq, Prod.mk.injEq] at h
      obtain ⟨rfl, rfl⟩ := h
      refine ⟨by simp, by omega, ?_⟩
      rw [Lib.uvarint_small hc]
      simp
    · rw [if_neg hc] at h
      cases hd : dec n r with
      | none => rw [hd] at h; simp at h
      | some p =>
        obtain ⟨v', k'⟩ := p
        rw [hd] at h
        cases v' with
        | zero => simp at h
        | succ m =>
          simp only [Option.some.injEq, Prod.mk.injEq] at h
          obtain ⟨rfl, rfl⟩ := h
          have ih := dec_sound n r (m + 1) k' hd
          have hb := c.toNat_lt
          refine ⟨by simpa using ih.1, by omega, ?_⟩
          rw [Lib.uvarint_big (by omega), List.take_succ_cons, ih.2.2]
          have e1 : (c.toNat % 128 + 128 * (m + 1)) % 128 + 128 = c.toNat := by omega
          have e2 : (c.toNat % 128 + 128 * (m + 1)) / 128 = m + 1 := by omega
          rw [e1, e2]
          simp

theorem dec_pos (n : Nat) (l : List UInt8) (v k : Nat) (h : dec n l = some (v, k)) : 1 ≤ k := (dec_sound n l v k h).2.1

theorem dec64_uvarint (u : Nat) (t : List UInt8) (h : u < 18446744073709551616) : dec64 (Lib.uvarint u ++ t) = (u, (Lib.uvarint u).length) := by
  unfold dec64
  rw [dec_uvarint 10 u t (Lib.uvarint_length64 h)]
  simp [h]

theorem dec62_uvarint (u : Nat) (t : List UInt8) (h : u < 4611686018427387904) : dec62 (Lib.uvarint u ++ t) = (u, (Lib.uvarint u).length) := by
  unfold dec62
  rw [dec64_uvarint u t (by omega)]
  simp [h]

theorem dec64_cases (l : List UInt8) : dec64 l = (0, 0) ∨ ((dec64 l).1 < 18446744073709551616 ∧ 1 ≤ (dec64 l).2 ∧ (dec64 l).2 ≤ l.length ∧ l.take (dec64 l).2 = Lib.uvarint (dec64 l).1) := by
  unfold dec64
  cases h : dec 10 l with
  | none => exact .inl rfl
  | some p =>
    obtain ⟨v, k⟩ := p
    have hs := dec_sound 10 l v k h
    by_cases hv : v < 18446744073709551616
    · simp only [hv, if_true]
      exact .inr ⟨trivial, hs.2.1, hs.1, hs.2.2⟩
    · simp only [hv, if_false]
      exact .inl trivial

theorem dec64_lt (l : List UInt8) : (dec64 l).1 < 18446744073709551616 := by
  rcases dec64_cases l with h | h
  · rw [h]; decide
  · exact h.1

theorem dec64_le (l : List UInt8) : (dec64 l).2 ≤ l.length := by
  rcases dec64_cases l with h | h
  · rw [h]; exact Nat.zero_le _
  · exact h.2.2.1

theorem dec62_cases (l : List UInt8) : dec62 l = (0, 0) ∨ ((dec62 l).1 < 4611686018427387904 ∧ 1 ≤ (dec62 l).2 ∧ (dec62 l).2 ≤ l.length ∧ l.take (dec62 l).2 = Lib.uvarint (dec62 l).1) := by
  unfold dec62
  by_cases h : (dec64 l).1 < 4611686018427387904
  · rw [if_pos h]
    rcases dec64_cases l with e | e
    · exact .inl e
    · exact .inr ⟨h, e.2⟩
  · rw [if_neg h]
    exact .inl rfl

/-- Neither of two numbers' bytes begin the other's. -/
theorem uvarint_apart (u v : Nat) (t : List UInt8) (hu : u < 18446744073709551616) (h : Lib.uvarint v = Lib.uvarint u ++ t) (hv : v < 18446744073709551616) : u = v := by
  have e1 := dec64_uvarint u t hu
  have e2 := dec64_uvarint v [] hv
  rw [List.append_nil, h, e1] at e2
  exact congrArg Prod.fst e2

/-- 2^(7 k) as a power of 128. -/
theorem pow7 (k : Nat) : 2 ^ (7 * k) = 128 ^ k := by rw [Nat.pow_mul]

theorem uvarint_open : ∀ (n u j : Nat), (Lib.uvarint u).length ≤ n → j + 1 < (Lib.uvarint u).length → 128 ≤ ((Lib.uvarint u).getD j 0).toNat
  | 0, u, _, h, _ => by have := Lib.uvarint_pos u; omega
  | n + 1, u, j, h, hj => by
    by_cases hu : u < 128
    · rw [Lib.uvarint_small hu] at hj
      simp at hj
    · rw [Lib.uvarint_big (by omega)] at h hj ⊢
      cases j with
      | zero =>
        have e : ((u % 128 + 128).toUInt8).toNat = u % 128 + 128 := Lib.toUInt8_toNat (by omega)
        simp only [List.getD_cons_zero, e]
        omega
      | succ j =>
        simp only [List.length_cons] at h hj
        simp only [List.getD_cons_succ]
        exact uvarint_open n (u / 128) j (by omega) (by omega)

end Go.Proofs.Ytfhgjnfichgdiaa
