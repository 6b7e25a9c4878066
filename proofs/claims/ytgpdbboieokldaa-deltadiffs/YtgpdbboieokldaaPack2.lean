import Derived.Test.YtgpdbboieokldaaPack1
import Derived.Lib.VarintMem
import Derived.Lib.Endian
/- Codec: operations and states as bytes, over plain lists, and what follows. -/
namespace Go.Proofs.Ytgpdbboieokldaa

theorem zig_lt {n : Int} (h : I64 n) : Lib.zigzag n < 18446744073709551616 := by
  obtain ⟨h0, h1⟩ := h
  unfold Lib.zigzag
  split <;> omega

theorem zag_i64 {u : Nat} (h : u < 18446744073709551616) : I64 (zag u) := zag_range u h

/-- A number that is cut off is none. -/
theorem dec64_cut (u c : Nat) (hu : u < 18446744073709551616) (hc : c < (Lib.uvarint u).length) : dec64 ((Lib.uvarint u).take c) = (0, 0) := by
  have hlen : (Lib.uvarint u).length ≤ 10 := Lib.uvarint_length 9 u (Nat.lt_of_lt_of_le hu (by decide))
  have h : dec 10 ((Lib.uvarint u).take c) = none := by
    apply dec_miss
    intro j hj hjl
    have hjc : j < c := by simp at hjl; omega
    have e : ((Lib.uvarint u).take c).getD j 0 = (Lib.uvarint u).getD j 0 := by
      simp [List.getD, hjc]
    rw [e]
    exact uvarint_open 10 u j hlen (by omega)
  unfold dec64
  rw [h]

theorem dec62_cut (u c : Nat) (hu : u < 4611686018427387904) (hc : c < (Lib.uvarint u).length) : dec62 ((Lib.uvarint u).take c) = (0, 0) := by
  unfold dec62
  rw [dec64_cut u c (by omega) hc]
  rfl

theorem dec62_le (l : List UInt8) : (dec62 l).2 ≤ l.length := by
  rcases dec62_cases l with h | h
  · rw [h]; exact Nat.zero_le _
  · exact h.2.2.1

/-- An operation's bytes. -/
def putOpL (o : Opn) : List UInt8 := Lib.uvarint o.code.toNat ++ (Lib.uvarint (Lib.zigzag o.a) ++ Lib.uvarint (Lib.zigzag o.b))

/-- The operation that bytes begin with, and how many they are. -/
def getOpL (l : List UInt8) : Opn × Nat :=
  if (dec62 l).2 = 0 ∨ (dec64 (l.drop (dec62 l).2)).2 = 0 ∨ (dec64 (l.drop ((dec62 l).2 + (dec64 (l.drop (dec62 l).2)).2))).2 = 0 ∨ ¬ FitsO ⟨((dec62 l).1 : Int), zag (dec64 (l.drop (dec62 l).2)).1, zag (dec64 (l.drop ((dec62 l).2 + (dec64 (l.drop (dec62 l).2)).2))).1⟩ then (⟨0, 0, 0⟩, 0)
  else (⟨((dec62 l).1 : Int), zag (dec64 (l.drop (dec62 l).2)).1, zag (dec64 (l.drop ((dec62 l).2 + (dec64 (l.drop (dec62 l).2)).2))).1⟩, (dec62 l).2 + (dec64 (l.drop (dec62 l).2)).2 + (dec64 (l.drop ((dec62 l).2 + (dec64 (l.drop (dec62 l).2)).2))).2)

theorem fits_i64 {o : Opn} (h : FitsO o) : I64 o.a ∧ I64 o.b := by
  obtain ⟨_, _, h1, h2, h3, h4⟩ := h
  exact ⟨i64_small (by omega) (by omega), i64_small (by omega) (by omega)⟩

theorem uv_ne (u : Nat) : (Lib.uvarint u).length ≠ 0 := by have := Lib.uvarint_pos u; omega

theorem getOp_put (o : Opn) (h : FitsO o) (t : List UInt8) : getOpL (putOpL o ++ t) = (o, (putOpL o).length) := by
  obtain ⟨ia, ib⟩ := fits_i64 h
  have hc0 := h.1
  have hc1 := h.2.1
  have d1 : dec62 (putOpL o ++ t) = (o.code.toNat, (Lib.uvarint o.code.toNat).length) := by
    unfold putOpL
    rw [List.append_assoc]
    exact dec62_uvarint _ _ (by omega)
  have e1 : (putOpL o ++ t).drop (Lib.uvarint o.code.toNat).length = Lib.uvarint (Lib.zigzag o.a) ++ (Lib.uvarint (Lib.zigzag o.b) ++ t) := by
    unfold putOpL
    rw [List.append_assoc, List.drop_left, List.append_assoc]
  have d2 := dec64_uvarint (Lib.zigzag o.a) (Lib.uvarint (Lib.zigzag o.b) ++ t) (zig_lt ia)
  have e2 : (putOpL o ++ t).drop ((Lib.uvarint o.code.toNat).length + (Lib.uvarint (Lib.zigzag o.a)).length) = Lib.uvarint (Lib.zigzag o.b) ++ t := by
    rw [← List.drop_drop, e1, List.drop_left]
  have d3 := dec64_uvarint (Lib.zigzag o.b) t (zig_lt ib)
  have eo : (⟨((o.code.toNat : Nat) : Int), zag (Lib.zigzag o.a), zag (Lib.zigzag o.b)⟩ : Opn) = o := by
    rw [zag_zigzag _ ia.1 ia.2, zag_zigzag _ ib.1 ib.2]
    obtain ⟨c, a, b⟩ := o
    simp only [Opn.mk.injEq, and_true]
    simp only at hc0
    omega
  unfold getOpL
  simp only [d1, e1, d2, e2, d3]
  rw [if_neg, eo]
  · simp only [Prod.mk.injEq, true_and]
    unfold putOpL
    simp only [List.length_append]
    omega
  · rw [eo]
    rintro (h1 | h1 | h1 | h1)
    · exact uv_ne _ h1
    · exact uv_ne _ h1
    · exact uv_ne _ h1
    · exact h1 h

theorem getOp_le (l : List UInt8) : (getOpL l).2 ≤ l.length := by
  unfold getOpL
  split
  · exact Nat.zero_le _
  · have h1 := dec62_le l
    have h2 := dec64_le (l.drop (dec62 l).2)
    have h3 := dec64_le (l.drop ((dec62 l).2 + (dec64 (l.drop (dec62 l).2)).2))
    simp only [List.length_drop] at h2 h3
    show (dec62 l).2 + _ + _ ≤ _
    omega

theorem getOp_none {l : List UInt8} (h : (getOpL l).2 = 0) : (getOpL l).1 = ⟨0, 0, 0⟩ := by
  unfold getOpL at h ⊢
  split
  · rfl
  · rename_i hn
    rw [if_neg hn] at h
    simp only at h
    omega

theorem take_split (l : List UInt8) (i j : Nat) : l.take (i + j) = l.take i ++ (l.drop i).take j := by
  rw [List.take_add]

theorem getOp_sound {l : List UInt8} (h : (getOpL l).2 ≠ 0) : FitsO (getOpL l).1 ∧ putOpL (getOpL l).1 = l.take (getOpL l).2 := by
  unfold getOpL at h ⊢
  by_cases hn : (dec62 l).2 = 0 ∨ (dec64 (l.drop (dec62 l).2)).2 = 0 ∨ (dec64 (l.drop ((dec62 l).2 + (dec64 (l.drop (dec62 l).2)).2))).2 = 0 ∨ ¬ FitsO ⟨((dec62 l).1 : Int), zag (dec64 (l.drop (dec62 l).2)).1, zag (dec64 (l.drop ((dec62 l).2 + (dec64 (l.drop (dec62 l).2)).2))).1⟩
  · rw [if_pos hn] at h
    exact absurd rfl h
  · rw [if_neg hn]
    have h1 : (dec62 l).2 ≠ 0 := fun e => hn (.inl e)
    have h2 : (dec64 (l.drop (dec62 l).2)).2 ≠ 0 := fun e => hn (.inr (.inl e))
    have h3 : (dec64 (l.drop ((dec62 l).2 + (dec64 (l.drop (dec62 l).2)).2))).2 ≠ 0 := fun e => hn (.inr (.inr (.inl e)))
    have h4 : FitsO ⟨((dec62 l).1 : Int), zag (dec64 (l.drop (dec62 l).2)).1, zag (dec64 (l.drop ((dec62 l).2 + (dec64 (l.drop (dec62 l).2)).2))).1⟩ := Classical.byContradiction fun e => hn (.inr (.inr (.inr e)))
    refine ⟨h4, ?_⟩
    have c1 : l.take (dec62 l).2 = Lib.uvarint (dec62 l).1 := by
      rcases dec62_cases l with e | e
      · rw [e] at h1; exact absurd rfl h1
      · exact e.2.2.2
    have c2 : (l.drop (dec62 l).2).take (dec64 (l.drop (dec62 l).2)).2 = Lib.uvarint (dec64 (l.drop (dec62 l).2)).1 := by
      rcases dec64_cases (l.drop (dec62 l).2) with e | e
      · rw [e] at h2; exact absurd rfl h2
      · exact e.2.2.2
    have c3 : (l.drop ((dec62 l).2 + (dec64 (l.drop (dec62 l).2)).2)).take (dec64 (l.drop ((dec62 l).2 + (dec64 (l.drop (dec62 l).2)).2))).2 = Lib.uvarint (dec64 (l.drop ((dec62 l).2 + (dec64 (l.drop (dec62 l).2)).2))).1 := by
      rcases dec64_cases (l.drop ((dec62 l).2 + (dec64 (l.drop (dec62 l).2)).2)) with e | e
      · rw [e] at h3; exact absurd rfl h3
      · exact e.2.2.2
    unfold putOpL
    simp only [zigzag_zag]
    rw [take_split, take_split, c1, c2, c3, List.append_assoc]
    rfl

/-- Two operations of which one's bytes begin the other's are one. -/
theorem putOp_apart {o p : Opn} (ho : FitsO o) (hp : FitsO p) {t : List UInt8} (h : putOpL p = putOpL o ++ t) : o = p := by
  have h1 := getOp_put o ho t
  have h2 := getOp_put p hp []
  rw [List.append_nil, h] at h2
  rw [h1] at h2
  injection h2

/-- Numbers as bytes. -/
def numsL : List Int → List UInt8
  | [] => []
  | x :: r => Lib.uvarint (Lib.zigzag x) ++ numsL r

/-- What a state is sealed for, as a number. -/
def sealN (s : St) : Nat := if s.shut = true then s.eng.toNat + 1 else 0

/-- A state's bytes. -/
def encS (s : St) : List UInt8 := Lib.uvarint s.kind.toNat ++ (Lib.uvarint (sealN s) ++ (Lib.uvarint s.L.length ++ numsL s.L))

/-- So many numbers that bytes begin with, and how many bytes they are. -/
def readL : Nat → List UInt8 → Option (List Int × Nat)
  | 0, _ => some ([], 0)
  | n + 1, l => if (dec64 l).2 = 0 then none else (readL n (l.drop (dec64 l).2)).map fun x => (zag (dec64 l).1 :: x.1, (dec64 l).2 + x.2)

/-- The state of three numbers and a list. -/
def mkS (kind sl : Nat) (xs : List Int) : St := ⟨kind, xs, decide (0 < sl), if 0 < sl then (sl : Int) - 1 else 0⟩

def zeroS : St := ⟨0, [], false, 0⟩

/-- What comes of three numbers and the bytes behind them. -/
def restS (kind sl many : Nat) (l : List UInt8) : St × Int :=
  match readL many l with
  | none => (zeroS, 3)
  | some (xs, u) => if u ≠ l.length then (zeroS, 3) else if MayS (mkS kind sl xs) then (mkS kind sl xs, 0) else (zeroS, 1)

/-- The state that bytes are, and the error. -/
def decS (l : List UInt8) : St × Int :=
  if (dec62 l).2 = 0 ∨ (dec62 (l.drop (dec62 l).2)).2 = 0 ∨ (dec62 (l.drop ((dec62 l).2 + (dec62 (l.drop (dec62 l).2)).2))).2 = 0 ∨ 3 < (dec62 (l.drop (dec62 l).2)).1 ∨ 128 < (dec62 (l.drop ((dec62 l).2 + (dec62 (l.drop (dec62 l).2)).2))).1 then (zeroS, 3)
  else restS (dec62 l).1 (dec62 (l.drop (dec62 l).2)).1 (dec62 (l.drop ((dec62 l).2 + (dec62 (l.drop (dec62 l).2)).2))).1 (l.drop ((dec62 l).2 + (dec62 (l.drop (dec62 l).2)).2 + (dec62 (l.drop ((dec62 l).2 + (dec62 (l.drop (dec62 l).2)).2))).2))

theorem readL_nums : ∀ (L : List Int) (t : List UInt8), (∀ x ∈ L, I64 x) → readL L.length (numsL L ++ t) = some (L, (numsL L).length)
  | [], t, _ => rfl
  | x :: r, t, h => by
    have hx := h x (by simp)
    have ih := readL_nums r t (fun y hy => h y (by simp [hy]))
    have d := dec64_uvarint (Lib.zigzag x) (numsL r ++ t) (zig_lt hx)
    rw [List.length_cons, numsL, List.append_assoc, readL, d]
    simp only
    rw [if_neg (uv_ne _), List.drop_left, ih, zag_zigzag x hx.1 hx.2]
    simp

theorem readL_sound : ∀ (n : Nat) (l : List UInt8) (xs : List Int) (u : Nat), readL n l = some (xs, u) → xs.length = n ∧ u ≤ l.length ∧ numsL xs = l.take u ∧ ∀ x ∈ xs, I64 x
  | 0, l, xs, u, h => by
    simp only [readL, Option.some.injEq, Prod.mk.injEq] at h
    obtain ⟨rfl, rfl⟩ := h
    exact ⟨rfl, Nat.zero_le _, by simp [numsL], fun x hx => by simp at hx⟩
  | n + 1, l, xs, u, h => by
    rw [readL] at h
    by_cases h0 : (dec64 l).2 = 0
    · rw [if_pos h0] at h; cases h
    · rw [if_neg h0] at h
      obtain ⟨⟨ys, k⟩, hy, he⟩ := Option.map_eq_some_iff.1 h
      simp only [Prod.mk.injEq] at he
      obtain ⟨rfl, rfl⟩ := he
      obtain ⟨i1, i2, i3, i4⟩ := readL_sound n _ ys k hy
      rcases dec64_cases l with e | ⟨e1, e2, e3, e4⟩
      · rw [e] at h0; exact absurd rfl h0
      · simp only [List.length_drop] at i2
        refine ⟨by simp [i1], by omega, ?_, ?_⟩
        · rw [numsL, zigzag_zag, i3, take_split, e4]
        · intro x hx
          rcases List.mem_cons.1 hx with rfl | hx
          · exact zag_i64 e1
          · exact i4 x hx

theorem readL_cut : ∀ (L : List Int) (c : Nat), (∀ x ∈ L, I64 x) → c < (numsL L).length → readL L.length ((numsL L).take c) = none
  | [], c, _, hc => by simp [numsL] at hc
  | x :: r, c, h, hc => by
    have hx := h x (by simp)
    rw [List.length_cons, readL]
    by_cases hl : c < (Lib.uvarint (Lib.zigzag x)).length
    · have e : (numsL (x :: r)).take c = (Lib.uvarint (Lib.zigzag x)).take c := by
        rw [numsL, List.take_append_of_le_length (by omega)]
      rw [e, dec64_cut _ _ (zig_lt hx) hl, if_pos rfl]
    · have e : (numsL (x :: r)).take c = Lib.uvarint (Lib.zigzag x) ++ (numsL r).take (c - (Lib.uvarint (Lib.zigzag x)).length) := by
        rw [numsL, List.take_append, List.take_of_length_le (by omega)]
      have hc' : c - (Lib.uvarint (Lib.zigzag x)).length < (numsL r).length := by
        rw [numsL, List.length_append] at hc
        omega
      rw [e, dec64_uvarint _ _ (zig_lt hx)]
      simp only
      rw [if_neg (uv_ne _), List.drop_left, readL_cut r _ (fun y hy => h y (by simp [hy])) hc']
      rfl

theorem sealN_le {s : St} (h : MayS s) : sealN s ≤ 3 := by
  have := h.1
  have := h.2.1
  unfold sealN
  split <;> omega

theorem mkS_enc {s : St} (h : MayS s) : mkS s.kind.toNat (sealN s) s.L = s := by
  obtain ⟨k, l, sh, g⟩ := s
  have h1 : 0 ≤ g := h.1
  have h4 : 0 ≤ k := h.2.2.2.1
  have h3 : sh = false → g = 0 := h.2.2.1
  unfold mkS sealN
  cases sh with
  | true => simp; omega
  | false =>
    have := h3 rfl
    simp
    omega

theorem may_small {s : St} (h : MayS s) : s.kind.toNat < 4611686018427387904 ∧ s.L.length ≤ 128 ∧ ∀ x ∈ s.L, I64 x := by
  have h0 := h.2.2.2.1
  have h6 := h.2.2.2.2.1
  have hn := h.2.2.2.2.2
  by_cases h4 : s.kind = 4
  · rw [h4, numsOk_4] at hn
    refine ⟨by omega, hn.1, fun x hx => ?_⟩
    have hb : ∀ (l : List Int) (lo : Int), -1 ≤ lo → Pairs (-1099511627776) lo l → ∀ x ∈ l, I64 x := by
      intro l
      match l with
      | [] => intro _ _ _ x hx; simp at hx
      | [_] => intro _ _ h; simp [Pairs] at h
      | a :: b :: r => exact pairsW a b r
    exact hb s.L (-1) (by decide) hn.2 x hx
  · by_cases h5 : s.kind = 5
    · rw [h5, numsOk_5] at hn
      exact ⟨by omega, hn.1, fun x hx => by have := pairs_mem (by decide) hn.2 x hx; exact i64_small (by omega) (by omega)⟩
    · have hl := (numsOk_list h4 h5).1 hn
      exact ⟨by omega, by omega, fun x hx => by have := (inBounds_iff _).1 hl.2.2 x hx; exact i64_small (by omega) (by omega)⟩
where
  pairsW (a b : Int) (r : List Int) : ∀ (lo : Int), -1 ≤ lo → Pairs (-1099511627776) lo (a :: b :: r) → ∀ x ∈ a :: b :: r, I64 x := by
    intro lo hlo h x hx
    unfold Pairs at h
    simp at hx
    rcases hx with rfl | rfl | hx
    · exact i64_small (by omega) (by omega)
    · exact i64_small (by omega) (by omega)
    · match r, hx, h with
      | a2 :: b2 :: r2, hx, h => exact pairsW a2 b2 r2 a (by omega) h.2.2.2.2 x hx
      | [c], _, h => simp [Pairs] at h

theorem decS_three (k s m : Nat) (t : List UInt8) (hk : k < 4611686018427387904) (hs : s ≤ 3) (hm : m ≤ 128) : decS (Lib.uvarint k ++ (Lib.uvarint s ++ (Lib.uvarint m ++ t))) = restS k s m t := by
  have d1 := dec62_uvarint k (Lib.uvarint s ++ (Lib.uvarint m ++ t)) hk
  have e1 : (Lib.uvarint k ++ (Lib.uvarint s ++ (Lib.uvarint m ++ t))).drop (Lib.uvarint k).length = Lib.uvarint s ++ (Lib.uvarint m ++ t) := List.drop_left
  have d2 := dec62_uvarint s (Lib.uvarint m ++ t) (by omega)
  have e2 : (Lib.uvarint k ++ (Lib.uvarint s ++ (Lib.uvarint m ++ t))).drop ((Lib.uvarint k).length + (Lib.uvarint s).length) = Lib.uvarint m ++ t := by rw [← List.drop_drop, e1, List.drop_left]
  have d3 := dec62_uvarint m t (by omega)
  have e3 : (Lib.uvarint k ++ (Lib.uvarint s ++ (Lib.uvarint m ++ t))).drop ((Lib.uvarint k).length + (Lib.uvarint s).length + (Lib.uvarint m).length) = t := by rw [← List.drop_drop, e2, List.drop_left]
  unfold decS
  simp only [d1, e1, d2, e2, d3, e3]
  rw [if_neg]
  rintro (h | h | h | h | h)
  · exact uv_ne _ h
  · exact uv_ne _ h
  · exact uv_ne _ h
  · omega
  · omega

theorem decS_enc {s : St} (h : MayS s) : decS (encS s) = (s, 0) := by
  obtain ⟨h1, h2, h3⟩ := may_small h
  unfold encS
  rw [decS_three _ _ _ _ h1 (sealN_le h) h2]
  have hr := readL_nums s.L [] h3
  rw [List.append_nil] at hr
  unfold restS
  rw [hr]
  simp only
  rw [if_neg (by simp), mkS_enc h, if_pos h]

/-- With something behind it a state's bytes are none. -/
theorem decS_more {s : St} (h : MayS s) (t : List UInt8) (ht : t ≠ []) : decS (encS s ++ t) = (zeroS, 3) := by
  obtain ⟨h1, h2, h3⟩ := may_small h
  unfold encS
  rw [List.append_assoc, List.append_assoc, List.append_assoc, decS_three _ _ _ _ h1 (sealN_le h) h2]
  unfold restS
  rw [readL_nums s.L t h3]
  simp only
  rw [if_pos]
  have : 0 < t.length := List.length_pos_iff.2 ht
  simp
  omega

theorem dec62_app_cut (u : Nat) (t : List UInt8) (c : Nat) (hu : u < 4611686018427387904) : (c < (Lib.uvarint u).length ∧ (dec62 ((Lib.uvarint u ++ t).take c)).2 = 0) ∨ ((Lib.uvarint u).length ≤ c ∧ (Lib.uvarint u ++ t).take c = Lib.uvarint u ++ t.take (c - (Lib.uvarint u).length)) := by
  by_cases hc : c < (Lib.uvarint u).length
  · left
    rw [List.take_append_of_le_length (by omega), dec62_cut u c hu hc]
    exact ⟨hc, rfl⟩
  · right
    rw [List.take_append, List.take_of_length_le (by omega)]
    exact ⟨by omega, rfl⟩

/-- A state's bytes without the last ones are none. -/
theorem decS_cut {s : St} (h : MayS s) (c : Nat) (hc : c < (encS s).length) : decS ((encS s).take c) = (zeroS, 3) := by
  obtain ⟨h1, h2, h3⟩ := may_small h
  have hs := sealN_le h
  unfold encS at hc ⊢
  generalize s.kind.toNat = k at *
  generalize sealN s = m at *
  rcases dec62_app_cut k (Lib.uvarint m ++ (Lib.uvarint s.L.length ++ numsL s.L)) c h1 with ⟨_, z⟩ | ⟨l1, e1⟩
  · unfold decS
    rw [if_pos (.inl z)]
  rw [e1]
  have d1 := fun t => dec62_uvarint k t h1
  rcases dec62_app_cut m (Lib.uvarint s.L.length ++ numsL s.L) (c - (Lib.uvarint k).length) (by omega) with ⟨_, z⟩ | ⟨l2, e2⟩
  · unfold decS
    rw [if_pos]
    right; left
    rw [d1, List.drop_left]
    exact z
  rw [e2]
  rcases dec62_app_cut s.L.length (numsL s.L) (c - (Lib.uvarint k).length - (Lib.uvarint m).length) (by omega) with ⟨_, z⟩ | ⟨l3, e3⟩
  · unfold decS
    rw [if_pos]
    right; right; left
    have d2 := fun t => dec62_uvarint m t (by omega)
    rw [d1]
    simp only [List.drop_left]
    rw [d2]
    simp only
    rw [← List.drop_drop, List.drop_left, List.drop_left]
    exact z
  rw [e3, decS_three _ _ _ _ h1 hs h2]
  unfold restS
  rw [readL_cut s.L _ h3 (by simp only [List.length_append] at hc; omega)]

theorem decS_codes (l : List UInt8) : (decS l).2 = 0 ∨ ((decS l).1 = zeroS ∧ ((decS l).2 = 3 ∨ (decS l).2 = 1)) := by
  unfold decS
  split
  · exact .inr ⟨rfl, .inl rfl⟩
  · unfold restS
    split
    · exact .inr ⟨rfl, .inl rfl⟩
    · split
      · exact .inr ⟨rfl, .inl rfl⟩
      · split
        · exact .inl rfl
        · exact .inr ⟨rfl, .inr rfl⟩

/-- What is decoded may be, and is encoded as just these bytes. -/
theorem decS_sound {l : List UInt8} (h : (decS l).2 = 0) : MayS (decS l).1 ∧ encS (decS l).1 = l := by
  unfold decS at h ⊢
  by_cases hn : (dec62 l).2 = 0 ∨ (dec62 (l.drop (dec62 l).2)).2 = 0 ∨ (dec62 (l.drop ((dec62 l).2 + (dec62 (l.drop (dec62 l).2)).2))).2 = 0 ∨ 3 < (dec62 (l.drop (dec62 l).2)).1 ∨ 128 < (dec62 (l.drop ((dec62 l).2 + (dec62 (l.drop (dec62 l).2)).2))).1
  · rw [if_pos hn] at h
    cases h
  · rw [if_neg hn] at h ⊢
    have h1 : (dec62 l).2 ≠ 0 := fun e => hn (.inl e)
    have h2 : (dec62 (l.drop (dec62 l).2)).2 ≠ 0 := fun e => hn (.inr (.inl e))
    have h3 : (dec62 (l.drop ((dec62 l).2 + (dec62 (l.drop (dec62 l).2)).2))).2 ≠ 0 := fun e => hn (.inr (.inr (.inl e)))
    have c1 : l.take (dec62 l).2 = Lib.uvarint (dec62 l).1 := by
      rcases dec62_cases l with e | e
      · rw [e] at h1; exact absurd rfl h1
      · exact e.2.2.2
    have c2 : (l.drop (dec62 l).2).take (dec62 (l.drop (dec62 l).2)).2 = Lib.uvarint (dec62 (l.drop (dec62 l).2)).1 := by
      rcases dec62_cases (l.drop (dec62 l).2) with e | e
      · rw [e] at h2; exact absurd rfl h2
      · exact e.2.2.2
    have c3 : (l.drop ((dec62 l).2 + (dec62 (l.drop (dec62 l).2)).2)).take (dec62 (l.drop ((dec62 l).2 + (dec62 (l.drop (dec62 l).2)).2))).2 = Lib.uvarint (dec62 (l.drop ((dec62 l).2 + (dec62 (l.drop (dec62 l).2)).2))).1 := by
      rcases dec62_cases (l.drop ((dec62 l).2 + (dec62 (l.drop (dec62 l).2)).2)) with e | e
      · rw [e] at h3; exact absurd rfl h3
      · exact e.2.2.2
    generalize (dec62 (l.drop ((dec62 l).2 + (dec62 (l.drop (dec62 l).2)).2))).2 = k at *
    generalize (dec62 (l.drop ((dec62 l).2 + (dec62 (l.drop (dec62 l).2)).2))).1 = many at *
    generalize (dec62 (l.drop (dec62 l).2)).2 = j at *
    generalize (dec62 (l.drop (dec62 l).2)).1 = sl at *
    generalize (dec62 l).2 = i at *
    generalize (dec62 l).1 = kind at *
    unfold restS at h ⊢
    cases hr : readL many (l.drop (i + j + k)) with
    | none => rw [hr] at h; cases h
    | some x =>
      obtain ⟨xs, u⟩ := x
      rw [hr] at h
      simp only at h ⊢
      obtain ⟨r1, r2, r3, r4⟩ := readL_sound _ _ _ _ hr
      by_cases hu : u ≠ (l.drop (i + j + k)).length
      · rw [if_pos hu] at h; cases h
      · rw [if_neg hu] at h ⊢
        by_cases hm : MayS (mkS kind sl xs)
        · rw [if_pos hm]
          refine ⟨hm, ?_⟩
          have hu' : u = (l.drop (i + j + k)).length := Classical.byContradiction hu
          rw [hu', List.take_length] at r3
          have ek : (mkS kind sl xs).kind.toNat = kind := by simp [mkS]
          have es : sealN (mkS kind sl xs) = sl := by
            unfold sealN mkS
            by_cases h0 : 0 < sl
            · simp [h0]; omega
            · simp [h0]; omega
          show Lib.uvarint (mkS kind sl xs).kind.toNat ++ (Lib.uvarint (sealN (mkS kind sl xs)) ++ (Lib.uvarint xs.length ++ numsL xs)) = l
          rw [ek, es, r1, r3, ← c1, ← c2, ← c3]
          have f1 : l.drop (i + j) = (l.drop i).drop j := by rw [List.drop_drop]
          have f2 : l.drop (i + j + k) = ((l.drop i).drop j).drop k := by rw [List.drop_drop, List.drop_drop, Nat.add_assoc]
          rw [f1, f2, List.take_append_drop, List.take_append_drop, List.take_append_drop]
        · rw [if_neg hm] at h; cases h

end Go.Proofs.Ytgpdbboieokldaa

/- Schema: records as bytes in three versions, over plain lists, and what follows. -/
namespace Go.Proofs.Ytgpdbboieokldaa

/-- A record. -/
structure Rec where
  idx : Int
  proc : Int
  seq : Int
  op : Opn
  resp : Int

def zeroR : Rec := ⟨0, 0, 0, ⟨0, 0, 0⟩, 0⟩

def FitsR (r : Rec) : Prop := FitsO r.op ∧ 0 ≤ r.idx ∧ r.idx < 4611686018427387904 ∧ 0 ≤ r.seq ∧ r.seq < 4611686018427387904 ∧ 0 ≤ r.proc ∧ r.proc ≤ 64 ∧ -1125899906842624 ≤ r.resp ∧ r.resp ≤ 1125899906842624

instance (r : Rec) : Decidable (FitsR r) := by unfold FitsR; infer_instance

/-- A record as a version can tell it. -/
def upgR (v : Int) (r : Rec) : Rec := ⟨r.idx, r.proc, if v < 2 then 0 else r.seq, r.op, if v < 3 then 0 else r.resp⟩

/-- Has a version a field? -/
def hasV (v f : Nat) : Prop := f = 1 ∨ f = 2 ∨ f = 4 ∨ (f = 3 ∧ 2 ≤ v) ∨ (f = 5 ∧ v = 3)

instance (v f : Nat) : Decidable (hasV v f) := by unfold hasV; infer_instance

/-- A field's bytes. -/
def bytesF (r : Rec) (f : Nat) : List UInt8 :=
  if f = 1 then Lib.uvarint r.idx.toNat else if f = 2 then Lib.uvarint r.proc.toNat else if f = 3 then Lib.uvarint r.seq.toNat
  else if f = 4 then putOpL r.op else Lib.uvarint (Lib.zigzag r.resp)

/-- A record with another's field. -/
def setF (src r : Rec) (f : Nat) : Rec :=
  if f = 1 then { r with idx := src.idx } else if f = 2 then { r with proc := src.proc } else if f = 3 then { r with seq := src.seq }
  else if f = 4 then { r with op := src.op } else { r with resp := src.resp }

/-- A record with the value that bytes begin with, and how many these are. -/
def valueF (r : Rec) (f : Nat) (l : List UInt8) : Rec × Nat :=
  if f = 1 then ({ r with idx := ((dec62 l).1 : Int) }, (dec62 l).2) else if f = 2 then ({ r with proc := ((dec62 l).1 : Int) }, (dec62 l).2)
  else if f = 3 then ({ r with seq := ((dec62 l).1 : Int) }, (dec62 l).2) else if f = 4 then ({ r with op := (getOpL l).1 }, (getOpL l).2)
  else ({ r with resp := zag (dec64 l).1 }, (dec64 l).2)

theorem ne_nil_of {l : List UInt8} (h : 0 < l.length) : l ≠ [] := by intro e; rw [e] at h; simp at h

set_option linter.unusedVariables false in
/-- The fields, one by one, up to the end: the record and how many there were, or the error. -/
def walkV (v : Nat) (l : List UInt8) (last : Int) (found : Nat) (r : Rec) : Except Int (Rec × Nat) :=
  if hl : l = [] then .ok (r, found)
  else if hk : (dec62 l).2 = 0 ∨ ((dec62 l).1 : Int) ≤ last then .error 3
  else if hasV v (dec62 l).1 then
    if (valueF r (dec62 l).1 (l.drop (dec62 l).2)).2 = 0 then .error 3
    else walkV v (l.drop ((dec62 l).2 + (valueF r (dec62 l).1 (l.drop (dec62 l).2)).2)) (dec62 l).1 (found + 1) (valueF r (dec62 l).1 (l.drop (dec62 l).2)).1
  else if (dec62 l).1 < 16 ∨ v = 3 then .error 7
  else if (dec62 (l.drop (dec62 l).2)).2 = 0 ∨ l.length < (dec62 l).2 + (dec62 (l.drop (dec62 l).2)).2 + (dec62 (l.drop (dec62 l).2)).1 then .error 3
  else walkV v (l.drop ((dec62 l).2 + (dec62 (l.drop (dec62 l).2)).2 + (dec62 (l.drop (dec62 l).2)).1)) (dec62 l).1 found r
termination_by l.length
decreasing_by
  all_goals
    have h1 : l.length ≠ 0 := by simpa using hl
    have h2 : (dec62 l).2 ≠ 0 := fun e => hk (.inl e)
    rw [List.length_drop]
    omega

/-- What bytes are: a record, or the error. -/
def decR (l : List UInt8) : Rec × Int :=
  if l = [] then (zeroR, 2)
  else if (dec62 l).2 = 0 then (zeroR, 3)
  else if (dec62 l).1 < 1 ∨ 3 < (dec62 l).1 then (zeroR, 6)
  else match walkV (dec62 l).1 (l.drop (dec62 l).2) (-1) 0 zeroR with
    | .error e => (zeroR, e)
    | .ok (r, found) => if found ≠ (dec62 l).1 + 2 then (zeroR, 7) else if FitsR r then (r, 0) else (zeroR, 1)

/-- The fields of a version. -/
def fieldsV (v : Int) : List Nat := if v = 1 then [1, 2, 4] else if v = 2 then [1, 2, 3, 4] else [1, 2, 3, 4, 5]

def encFs (r : Rec) : List Nat → List UInt8
  | [] => []
  | f :: fs => Lib.uvarint f ++ (bytesF r f ++ encFs r fs)

/-- A record's bytes. -/
def encR (v : Int) (r : Rec) : List UInt8 := Lib.uvarint v.toNat ++ encFs r (fieldsV v)

theorem bytesF_ne (r : Rec) (f : Nat) : (bytesF r f).length ≠ 0 := by
  unfold bytesF putOpL
  repeat' split
  all_goals
    have := Lib.uvarint_pos r.idx.toNat
    have := Lib.uvarint_pos r.proc.toNat
    have := Lib.uvarint_pos r.seq.toNat
    have := Lib.uvarint_pos r.op.code.toNat
    have := Lib.uvarint_pos (Lib.zigzag r.resp)
    try simp only [List.length_append]
    omega

theorem fitsR_resp {r : Rec} (h : FitsR r) : I64 r.resp := i64_small (by have := h.2.2.2.2.2.2.2.1; omega) (by have := h.2.2.2.2.2.2.2.2; omega)

/-- A field that was put is read. -/
theorem valueF_put {src : Rec} (h : FitsR src) (r : Rec) (f : Nat) (t : List UInt8) : valueF r f (bytesF src f ++ t) = (setF src r f, (bytesF src f).length) := by
  have hr := fitsR_resp h
  obtain ⟨h1, h2, h3, h4, h5, h6, h7, h8, h9⟩ := h
  unfold valueF bytesF setF
  repeat' split
  · rw [dec62_uvarint _ _ (by omega), Int.toNat_of_nonneg h2]
  · rw [dec62_uvarint _ _ (by omega), Int.toNat_of_nonneg h6]
  · rw [dec62_uvarint _ _ (by omega), Int.toNat_of_nonneg h4]
  · rw [getOp_put _ h1]
  · rw [dec64_uvarint _ _ (zig_lt hr), zag_zigzag _ hr.1 hr.2]

theorem getOp_cut {o : Opn} (h : FitsO o) (c : Nat) (hc : c < (putOpL o).length) : (getOpL ((putOpL o).take c)).2 = 0 := by
  by_cases h0 : (getOpL ((putOpL o).take c)).2 = 0
  · exact h0
  · exfalso
    obtain ⟨h1, h2⟩ := getOp_sound h0
    have h3 := getOp_le ((putOpL o).take c)
    rw [List.length_take] at h3
    rw [List.take_take] at h2
    have h4 : putOpL o = putOpL (getOpL ((putOpL o).take c)).1 ++ (putOpL o).drop (min (getOpL ((putOpL o).take c)).2 c) := by
      rw [h2, List.take_append_drop]
    have h5 := putOp_apart h1 h h4
    rw [h5] at h2
    have h6 := congrArg List.length h2
    rw [List.length_take] at h6
    omega

/-- A field that is cut off is none. -/
theorem valueF_cut {src : Rec} (h : FitsR src) (r : Rec) (f c : Nat) (hc : c < (bytesF src f).length) : (valueF r f ((bytesF src f).take c)).2 = 0 := by
  have hr := fitsR_resp h
  obtain ⟨h1, h2, h3, h4, h5, h6, h7, h8, h9⟩ := h
  unfold valueF
  unfold bytesF at hc ⊢
  repeat' split
  · rename_i e
    rw [if_pos e] at hc
    rw [dec62_cut _ c (by omega) hc]
  · rename_i e1 e
    rw [if_neg e1, if_pos e] at hc
    rw [dec62_cut _ c (by omega) hc]
  · rename_i e1 e2 e
    rw [if_neg e1, if_neg e2, if_pos e] at hc
    rw [dec62_cut _ c (by omega) hc]
  · rename_i e1 e2 e3 e
    rw [if_neg e1, if_neg e2, if_neg e3, if_pos e] at hc
    exact getOp_cut h1 c hc
  · rename_i e1 e2 e3 e4
    rw [if_neg e1, if_neg e2, if_neg e3, if_neg e4] at hc
    rw [dec64_cut _ c (zig_lt hr) hc]

/-- One field that the version has, read. -/
theorem walk_has {v f : Nat} (hf : hasV v f) {l : List UInt8} {last : Int} {found : Nat} {r : Rec} (hlt : last < f) (hl : l ≠ []) {k : Nat} (hd : dec62 l = (f, k)) (hk : k ≠ 0) :
    walkV v l last found r = if (valueF r f (l.drop k)).2 = 0 then .error 3 else walkV v (l.drop (k + (valueF r f (l.drop k)).2)) f (found + 1) (valueF r f (l.drop k)).1 := by
  rw [walkV, dif_neg hl, dif_neg (by rw [hd]; simp only; omega), hd, if_pos hf]

theorem small_f {v f : Nat} (h : hasV v f) : 1 ≤ f ∧ f ≤ 5 := by unfold hasV at h; omega

theorem walk_field {src : Rec} (hs : FitsR src) {v f : Nat} (hf : hasV v f) (t : List UInt8) {last : Int} (hlt : last < f) (found : Nat) (r : Rec) :
    walkV v (Lib.uvarint f ++ (bytesF src f ++ t)) last found r = walkV v t f (found + 1) (setF src r f) := by
  have hb := small_f hf
  have hp := Lib.uvarint_pos f
  have hd := dec62_uvarint f (bytesF src f ++ t) (by omega)
  rw [walk_has hf hlt (ne_nil_of (by rw [List.length_append]; omega)) hd (by omega), List.drop_left, valueF_put hs, if_neg (bytesF_ne src f)]
  simp only
  rw [← List.drop_drop, List.drop_left, List.drop_left]

/-- Rising from a number on. -/
def Rising : Int → List Nat → Prop
  | _, [] => True
  | a, f :: fs => a < f ∧ Rising f fs

def lastOf : Int → List Nat → Int
  | a, [] => a
  | _, f :: fs => lastOf f fs

theorem walk_fs {src : Rec} (hs : FitsR src) {v : Nat} (t : List UInt8) : ∀ (fs : List Nat) (last : Int) (found : Nat) (r : Rec), Rising last fs → (∀ f ∈ fs, hasV v f) →
    walkV v (encFs src fs ++ t) last found r = walkV v t (lastOf last fs) (found + fs.length) (fs.foldl (setF src) r)
  | [], _, _, _, _, _ => rfl
  | f :: fs, last, found, r, hr, hh => by
    rw [encFs, List.append_assoc, List.append_assoc, walk_field hs (hh f (by simp)) _ hr.1, walk_fs hs t fs f (found + 1) _ hr.2 (fun g hg => hh g (by simp [hg]))]
    simp only [lastOf, List.length_cons, List.foldl_cons]
    rw [show found + 1 + fs.length = found + (fs.length + 1) by omega]

theorem walk_nil (v : Nat) (last : Int) (found : Nat) (r : Rec) : walkV v [] last found r = .ok (r, found) := by
  rw [walkV, dif_pos rfl]

/-- Fields that are cut off: an error, or fewer. -/
theorem walk_cut {src : Rec} (hs : FitsR src) {v : Nat} : ∀ (fs : List Nat) (c : Nat) (last : Int) (found : Nat) (r : Rec), Rising last fs → (∀ f ∈ fs, hasV v f) → c < (encFs src fs).length →
    walkV v ((encFs src fs).take c) last found r = .error 3 ∨ ∃ x n, walkV v ((encFs src fs).take c) last found r = .ok (x, n) ∧ n < found + fs.length
  | [], c, _, _, _, _, _, hc => by simp [encFs] at hc
  | f :: fs, c, last, found, r, hr, hh, hc => by
    have hf := hh f (by simp)
    have hb := small_f hf
    have hp := Lib.uvarint_pos f
    by_cases c0 : c = 0
    · subst c0
      rw [List.take_zero, walk_nil]
      exact .inr ⟨r, found, rfl, by simp⟩
    · by_cases c1 : c < (Lib.uvarint f).length
      · refine .inl ?_
        rw [encFs, List.take_append_of_le_length (by omega)]
        have hd := dec62_cut f c (by omega) c1
        rw [walkV, dif_neg (ne_nil_of (by rw [List.length_take]; omega)), dif_pos (by rw [hd]; exact .inl rfl)]
      · have e : (encFs src (f :: fs)).take c = Lib.uvarint f ++ (bytesF src f ++ encFs src fs).take (c - (Lib.uvarint f).length) := by
          rw [encFs, List.take_append, List.take_of_length_le (by omega)]
        rw [e]
        have hd := dec62_uvarint f ((bytesF src f ++ encFs src fs).take (c - (Lib.uvarint f).length)) (by omega)
        have hne : Lib.uvarint f ++ (bytesF src f ++ encFs src fs).take (c - (Lib.uvarint f).length) ≠ [] := ne_nil_of (by rw [List.length_append]; omega)
        by_cases c2 : c - (Lib.uvarint f).length < (bytesF src f).length
        · refine .inl ?_
          rw [walk_has hf hr.1 hne hd (by omega), List.drop_left, List.take_append_of_le_length (by omega), if_pos (valueF_cut hs r f _ c2)]
        · have e2 : (bytesF src f ++ encFs src fs).take (c - (Lib.uvarint f).length) = bytesF src f ++ (encFs src fs).take (c - (Lib.uvarint f).length - (bytesF src f).length) := by
            rw [List.take_append, List.take_of_length_le (by omega)]
          rw [e2, walk_field hs hf _ hr.1]
          have hc' : c - (Lib.uvarint f).length - (bytesF src f).length < (encFs src fs).length := by
            rw [encFs, List.length_append, List.length_append] at hc
            omega
          rcases walk_cut hs fs _ f (found + 1) (setF src r f) hr.2 (fun g hg => hh g (by simp [hg])) hc' with h | ⟨x, n, h, hn⟩
          · exact .inl h
          · exact .inr ⟨x, n, h, by simp only [List.length_cons]; omega⟩

theorem fields_ok {v : Int} (h1 : 1 ≤ v) (h3 : v ≤ 3) : Rising (-1) (fieldsV v) ∧ (∀ f ∈ fieldsV v, hasV v.toNat f) ∧ (fieldsV v).length = v.toNat + 2 := by
  have hv : v = 1 ∨ v = 2 ∨ v = 3 := by omega
  rcases hv with rfl | rfl | rfl
  · refine ⟨by simp [fieldsV, Rising], ?_, rfl⟩
    intro f hf
    simp [fieldsV] at hf
    unfold hasV
    omega
  · refine ⟨by simp [fieldsV, Rising], ?_, rfl⟩
    intro f hf
    simp [fieldsV] at hf
    unfold hasV
    omega
  · refine ⟨by simp [fieldsV, Rising], ?_, rfl⟩
    intro f hf
    simp [fieldsV] at hf
    unfold hasV
    omega

theorem fields_set {v : Int} (h1 : 1 ≤ v) (h3 : v ≤ 3) (r : Rec) : (fieldsV v).foldl (setF r) zeroR = upgR v r := by
  have hv : v = 1 ∨ v = 2 ∨ v = 3 := by omega
  rcases hv with rfl | rfl | rfl <;> rfl

theorem upg_fits {v : Int} {r : Rec} (h : FitsR r) : FitsR (upgR v r) := by
  obtain ⟨h1, h2, h3, h4, h5, h6, h7, h8, h9⟩ := h
  refine ⟨h1, h2, h3, ?_, ?_, h6, h7, ?_, ?_⟩
  all_goals
    simp only [upgR]
    split <;> omega

theorem decR_enc {v : Int} (h1 : 1 ≤ v) (h3 : v ≤ 3) {r : Rec} (hr : FitsR r) : decR (encR v r) = (upgR v r, 0) := by
  obtain ⟨a, b, c⟩ := fields_ok h1 h3
  have hp := Lib.uvarint_pos v.toNat
  have hd := dec62_uvarint v.toNat (encFs r (fieldsV v)) (by omega)
  have hw := walk_fs hr [] (fieldsV v) (-1) 0 zeroR a b
  rw [List.append_nil, walk_nil, fields_set h1 h3] at hw
  unfold decR
  rw [if_neg (ne_nil_of (by unfold encR; rw [List.length_append]; omega))]
  unfold encR
  rw [hd]
  simp only
  rw [if_neg (by omega), if_neg (by omega), List.drop_left, hw]
  simp only
  rw [if_neg (by omega), if_pos (upg_fits hr)]

/-- Bytes that are cut off are no record. -/
theorem decR_cut {v : Int} (h1 : 1 ≤ v) (h3 : v ≤ 3) {r : Rec} (hr : FitsR r) (c : Nat) (hc : c < (encR v r).length) : (decR ((encR v r).take c)).2 ≠ 0 := by
  obtain ⟨a, b, n⟩ := fields_ok h1 h3
  have hp := Lib.uvarint_pos v.toNat
  have hv1 : (Lib.uvarint v.toNat).length = 1 := by rw [Lib.uvarint_small (by omega)]; rfl
  by_cases c0 : c = 0
  · subst c0
    rw [List.take_zero]
    simp [decR]
  · have e : (encR v r).take c = Lib.uvarint v.toNat ++ (encFs r (fieldsV v)).take (c - (Lib.uvarint v.toNat).length) := by
      unfold encR
      rw [List.take_append, List.take_of_length_le (by omega)]
    have hd := dec62_uvarint v.toNat ((encFs r (fieldsV v)).take (c - (Lib.uvarint v.toNat).length)) (by omega)
    have hc' : c - (Lib.uvarint v.toNat).length < (encFs r (fieldsV v)).length := by
      unfold encR at hc
      rw [List.length_append] at hc
      omega
    have hw := walk_cut hr (fieldsV v) _ (-1) 0 zeroR a b hc'
    rw [e]
    unfold decR
    rw [if_neg (ne_nil_of (by rw [List.length_append]; omega)), hd]
    simp only
    rw [if_neg (by omega), if_neg (by omega), List.drop_left]
    rcases hw with h | ⟨x, m, h, hm⟩
    · rw [h]
      show (3 : Int) ≠ 0
      decide
    · rw [h]
      simp only
      rw [if_pos (by omega)]
      decide

theorem dec62_take {l : List UInt8} (h : (dec62 l).2 ≠ 0) : Lib.uvarint (dec62 l).1 = l.take (dec62 l).2 := by
  rcases dec62_cases l with e | e
  · rw [e] at h; exact absurd rfl h
  · exact e.2.2.2.symm

theorem dec64_take {l : List UInt8} (h : (dec64 l).2 ≠ 0) : Lib.uvarint (dec64 l).1 = l.take (dec64 l).2 := by
  rcases dec64_cases l with e | e
  · rw [e] at h; exact absurd rfl h
  · exact e.2.2.2.symm

/-- A field that is read: its bytes, and no other field changes. -/
theorem value_sound (r : Rec) (f : Nat) (l : List UInt8) (hf : 1 ≤ f ∧ f ≤ 5) (h : (valueF r f l).2 ≠ 0) :
    bytesF (valueF r f l).1 f = l.take (valueF r f l).2 ∧ ∀ g : Nat, g ≠ f → 1 ≤ g → g ≤ 5 → bytesF (valueF r f l).1 g = bytesF r g := by
  have hc : f = 1 ∨ f = 2 ∨ f = 3 ∨ f = 4 ∨ f = 5 := by omega
  rcases hc with rfl | rfl | rfl | rfl | rfl
  · refine ⟨?_, fun g hg g1 g5 => ?_⟩
    · exact dec62_take h
    · have hg : g = 2 ∨ g = 3 ∨ g = 4 ∨ g = 5 := by omega
      rcases hg with rfl | rfl | rfl | rfl <;> rfl
  · refine ⟨?_, fun g hg g1 g5 => ?_⟩
    · exact dec62_take h
    · have hg : g = 1 ∨ g = 3 ∨ g = 4 ∨ g = 5 := by omega
      rcases hg with rfl | rfl | rfl | rfl <;> rfl
  · refine ⟨?_, fun g hg g1 g5 => ?_⟩
    · exact dec62_take h
    · have hg : g = 1 ∨ g = 2 ∨ g = 4 ∨ g = 5 := by omega
      rcases hg with rfl | rfl | rfl | rfl <;> rfl
  · refine ⟨?_, fun g hg g1 g5 => ?_⟩
    · exact (getOp_sound h).2
    · have hg : g = 1 ∨ g = 2 ∨ g = 3 ∨ g = 5 := by omega
      rcases hg with rfl | rfl | rfl | rfl <;> rfl
  · refine ⟨?_, fun g hg g1 g5 => ?_⟩
    · show Lib.uvarint (Lib.zigzag (zag (dec64 l).1)) = _
      rw [zigzag_zag]
      exact dec64_take h
    · have hg : g = 1 ∨ g = 2 ∨ g = 3 ∨ g = 4 := by omega
      rcases hg with rfl | rfl | rfl | rfl <;> rfl

/-- What is read in the newest version is what was put. -/
theorem walk3_sound : ∀ (n : Nat) (l : List UInt8) (last : Int) (found : Nat) (r r' : Rec) (found' : Nat), l.length ≤ n → walkV 3 l last found r = .ok (r', found') →
    ∃ fs, Rising last fs ∧ (∀ f ∈ fs, 1 ≤ f ∧ f ≤ 5) ∧ found' = found + fs.length ∧ l = encFs r' fs ∧ ∀ g : Nat, (g : Int) ≤ last → 1 ≤ g → g ≤ 5 → bytesF r' g = bytesF r g := by
  intro n
  induction n with
  | zero =>
    intro l last found r r' found' hn h
    have hl : l = [] := List.eq_nil_of_length_eq_zero (by omega)
    subst hl
    rw [walk_nil] at h
    injection h with h
    injection h with h1 h2
    subst h1
    subst h2
    exact ⟨[], trivial, by simp, by simp, rfl, fun _ _ _ _ => rfl⟩
  | succ n ih =>
    intro l last found r r' found' hn h
    by_cases hl : l = []
    · subst hl
      rw [walk_nil] at h
      injection h with h
      injection h with h1 h2
      subst h1
      subst h2
      exact ⟨[], trivial, by simp, by simp, rfl, fun _ _ _ _ => rfl⟩
    · rw [walkV, dif_neg hl] at h
      by_cases hk : (dec62 l).2 = 0 ∨ ((dec62 l).1 : Int) ≤ last
      · rw [dif_pos hk] at h
        cases h
      · rw [dif_neg hk] at h
        by_cases hh : hasV 3 (dec62 l).1
        · rw [if_pos hh] at h
          by_cases hm : (valueF r (dec62 l).1 (l.drop (dec62 l).2)).2 = 0
          · rw [if_pos hm] at h
            cases h
          · rw [if_neg hm] at h
            have hb := small_f hh
            obtain ⟨fs, i1, i2, i3, i4, i5⟩ := ih _ _ _ _ _ _ (by rw [List.length_drop]; omega) h
            have hc : l.take (dec62 l).2 = Lib.uvarint (dec62 l).1 := by
              rcases dec62_cases l with e | e
              · rw [e] at hk; exact absurd (.inl rfl) hk
              · exact e.2.2.2
            have hv := value_sound r (dec62 l).1 (l.drop (dec62 l).2) hb hm
            have hs := i5 (dec62 l).1 (Int.le_refl _) hb.1 hb.2
            refine ⟨(dec62 l).1 :: fs, ⟨by omega, i1⟩, ?_, by rw [i3]; simp only [List.length_cons]; omega, ?_, ?_⟩
            · intro f hf
              rcases List.mem_cons.1 hf with e | e
              · rw [e]; exact hb
              · exact i2 f e
            · rw [encFs, ← i4, hs, hv.1, ← hc, ← List.drop_drop, List.take_append_drop, List.take_append_drop]
            · intro g hg g1 g5
              rw [i5 g (by omega) g1 g5]
              exact hv.2 g (by omega) g1 g5
        · rw [if_neg hh, if_pos (.inr rfl)] at h
          cases h

theorem rising5 {fs : List Nat} (h1 : Rising (-1) fs) (h2 : ∀ f ∈ fs, 1 ≤ f ∧ f ≤ 5) (h3 : fs.length = 5) : fs = [1, 2, 3, 4, 5] := by
  match fs, h1, h2, h3 with
  | [a, b, c, d, e], ⟨i1, i2, i3, i4, i5, _⟩, h2, _ =>
    have ha := h2 a (by simp)
    have he := h2 e (by simp)
    have e1 : a = 1 := by omega
    have e2 : b = 2 := by omega
    have e3 : c = 3 := by omega
    have e4 : d = 4 := by omega
    have e5 : e = 5 := by omega
    rw [e1, e2, e3, e4, e5]

theorem walk_codes (v : Nat) : ∀ (n : Nat) (l : List UInt8) (last : Int) (found : Nat) (r : Rec) (e : Int), l.length ≤ n → walkV v l last found r = .error e → e = 3 ∨ e = 7 := by
  intro n
  induction n with
  | zero =>
    intro l last found r e hn h
    have hl : l = [] := List.eq_nil_of_length_eq_zero (by omega)
    subst hl
    rw [walk_nil] at h
    cases h
  | succ n ih =>
    intro l last found r e hn h
    by_cases hl : l = []
    · subst hl
      rw [walk_nil] at h
      cases h
    · rw [walkV, dif_neg hl] at h
      by_cases hk : (dec62 l).2 = 0 ∨ ((dec62 l).1 : Int) ≤ last
      · rw [dif_pos hk] at h
        injection h with h
        exact .inl h.symm
      · rw [dif_neg hk] at h
        split at h
        · split at h
          · injection h with h
            exact .inl h.symm
          · exact ih _ _ _ _ _ (by rw [List.length_drop]; omega) h
        · split at h
          · injection h with h
            exact .inr h.symm
          · split at h
            · injection h with h
              exact .inl h.symm
            · exact ih _ _ _ _ _ (by rw [List.length_drop]; omega) h

/-- With an error no record; else one that fits. -/
theorem decR_codes (l : List UInt8) : ((decR l).2 = 0 ∧ FitsR (decR l).1) ∨ ((decR l).2 ≠ 0 ∧ (decR l).1 = zeroR) := by
  unfold decR
  split
  · exact .inr ⟨by simp, rfl⟩
  split
  · exact .inr ⟨by simp, rfl⟩
  split
  · exact .inr ⟨by simp, rfl⟩
  split
  · rename_i e h
    rcases walk_codes _ _ _ _ _ _ _ (Nat.le_refl _) h with h | h
    · exact .inr ⟨by rw [h]; decide, rfl⟩
    · exact .inr ⟨by rw [h]; decide, rfl⟩
  · split
    · exact .inr ⟨by simp, rfl⟩
    · split
      · rename_i h
        exact .inl ⟨rfl, h⟩
      · exact .inr ⟨by simp, rfl⟩

/-- What is decoded of the newest version is encoded as just these bytes. -/
theorem decR_sound {t : List UInt8} (h : (decR (3 :: t)).2 = 0) : encR 3 (decR (3 :: t)).1 = 3 :: t := by
  have e3 : (3 :: t : List UInt8) = Lib.uvarint 3 ++ t := by rw [Lib.uvarint_small (by decide)]; rfl
  have hd := dec62_uvarint 3 t (by decide)
  have hl1 : (Lib.uvarint 3).length = 1 := by rw [Lib.uvarint_small (by decide)]; rfl
  rw [e3] at h ⊢
  unfold decR at h ⊢
  rw [if_neg (ne_nil_of (by rw [List.length_append]; omega)), hd] at h ⊢
  simp only [hl1] at h ⊢
  rw [if_neg (by omega), if_neg (by omega)] at h ⊢
  rw [show (Lib.uvarint 3 ++ t).drop 1 = t by rw [← hl1, List.drop_left]] at h ⊢
  cases hw : walkV 3 t (-1) 0 zeroR with
  | error e =>
    rw [hw] at h
    simp only at h
    rcases walk_codes _ _ _ _ _ _ _ (Nat.le_refl _) hw with e | e <;> omega
  | ok p =>
    obtain ⟨r, n⟩ := p
    rw [hw] at h
    simp only at h ⊢
    by_cases hn : n = 5
    · subst hn
      rw [if_neg (by simp)] at h ⊢
      by_cases hf : FitsR r
      · rw [if_pos hf]
        obtain ⟨fs, i1, i2, i3, i4, -⟩ := walk3_sound _ _ _ _ _ _ _ (Nat.le_refl _) hw
        rw [rising5 i1 i2 (by omega)] at i4
        show Lib.uvarint 3 ++ encFs r [1, 2, 3, 4, 5] = _
        rw [← i4]
      · rw [if_neg hf] at h
        simp at h
    · rw [if_pos (by omega)] at h
      simp at h

/-- What stands behind the version, read. -/
theorem decR_at (v : Nat) (h1 : 1 ≤ v) (h3 : v ≤ 3) (X : List UInt8) : decR (Lib.uvarint v ++ X) = match walkV v X (-1) 0 zeroR with
    | .error e => (zeroR, e)
    | .ok (r, found) => if found ≠ v + 2 then (zeroR, 7) else if FitsR r then (r, 0) else (zeroR, 1) := by
  have hp := Lib.uvarint_pos v
  have hd := dec62_uvarint v X (by omega)
  unfold decR
  rw [if_neg (ne_nil_of (by rw [List.length_append]; omega)), hd]
  simp only
  rw [if_neg (by omega), if_neg (by omega), List.drop_left]

/-- Something behind it, in the newest version. -/
theorem decR_more {r : Rec} (hr : FitsR r) {t : List UInt8} (ht : t ≠ []) : (decR (encR 3 r ++ t)).2 ≠ 0 := by
  obtain ⟨a, b, -⟩ := fields_ok (v := 3) (by decide) (by decide)
  have hw : walkV 3 (encFs r (fieldsV 3) ++ t) (-1) 0 zeroR = walkV 3 t 5 5 ((fieldsV 3).foldl (setF r) zeroR) := walk_fs hr t (fieldsV 3) (-1) 0 zeroR a b
  have he : ∃ e : Int, walkV 3 t 5 5 ((fieldsV 3).foldl (setF r) zeroR) = .error e ∧ e ≠ 0 := by
    rw [walkV, dif_neg ht]
    by_cases hk : (dec62 t).2 = 0 ∨ ((dec62 t).1 : Int) ≤ 5
    · rw [dif_pos hk]
      exact ⟨3, rfl, by decide⟩
    · rw [dif_neg hk, if_neg (by unfold hasV; omega), if_pos (.inr rfl)]
      exact ⟨7, rfl, by decide⟩
  obtain ⟨e, he, h0⟩ := he
  have hE : encR 3 r ++ t = Lib.uvarint 3 ++ (encFs r (fieldsV 3) ++ t) := List.append_assoc ..
  rw [hE, decR_at 3 (by decide) (by decide), hw, he]
  exact h0

/-- A strange field. -/
theorem decR_strange {v : Int} (h1 : 1 ≤ v) (h3 : v ≤ 3) {r : Rec} (hr : FitsR r) (f : Nat) (hf0 : 16 ≤ f) (hf1 : f < 128) (d : List UInt8) (hd : d.length < 128) :
    decR (encR v r ++ (Lib.uvarint f ++ (Lib.uvarint d.length ++ d))) = if v = 3 then (zeroR, 7) else (upgR v r, 0) := by
  obtain ⟨a, b, n⟩ := fields_ok h1 h3
  have hw := walk_fs hr (Lib.uvarint f ++ (Lib.uvarint d.length ++ d)) (fieldsV v) (-1) 0 zeroR a b
  rw [fields_set h1 h3, n] at hw
  have hlast : lastOf (-1) (fieldsV v) ≤ 5 := by
    have hv : v = 1 ∨ v = 2 ∨ v = 3 := by omega
    rcases hv with rfl | rfl | rfl <;> decide
  have hp := Lib.uvarint_pos f
  have hp2 := Lib.uvarint_pos d.length
  have d1 := dec62_uvarint f (Lib.uvarint d.length ++ d) (by omega)
  have d2 := dec62_uvarint d.length d (by omega)
  have hE : encR v r ++ (Lib.uvarint f ++ (Lib.uvarint d.length ++ d)) = Lib.uvarint v.toNat ++ (encFs r (fieldsV v) ++ (Lib.uvarint f ++ (Lib.uvarint d.length ++ d))) := List.append_assoc ..
  rw [hE, decR_at v.toNat (by omega) (by omega), hw, walkV, dif_neg (ne_nil_of (by rw [List.length_append]; omega)), dif_neg (by rw [d1]; simp only; omega), d1]
  simp only
  rw [if_neg (by unfold hasV; omega)]
  by_cases hv : v = 3
  · subst hv
    rw [if_pos (.inr rfl), if_pos rfl]
  · rw [if_neg (by omega), if_neg hv, List.drop_left, d2]
    simp only
    rw [if_neg (by rw [List.length_append, List.length_append]; omega), show (Lib.uvarint f ++ (Lib.uvarint d.length ++ d)).drop ((Lib.uvarint f).length + (Lib.uvarint d.length).length + d.length) = [] from List.drop_of_length_le (by rw [List.length_append, List.length_append]; omega), walk_nil]
    simp only
    rw [if_neg (by omega), if_pos (upg_fits hr)]

theorem encR_upg {v : Int} (h1 : 1 ≤ v) (h3 : v ≤ 3) (r : Rec) : encR v (upgR v r) = encR v r := by
  have hv : v = 1 ∨ v = 2 ∨ v = 3 := by omega
  rcases hv with rfl | rfl | rfl <;> rfl

theorem upg_upg (v : Int) (r : Rec) : upgR v (upgR v r) = upgR v r := by
  unfold upgR
  simp only
  by_cases h1 : v < 2 <;> by_cases h2 : v < 3 <;> simp [h1, h2]

theorem upg_three (r : Rec) : upgR 3 r = r := rfl

/-- Two records have two texts just if their upgrades are two. -/
theorem encR_inj {v : Int} (h1 : 1 ≤ v) (h3 : v ≤ 3) {r s : Rec} (hr : FitsR r) (hs : FitsR s) : encR v r = encR v s ↔ upgR v r = upgR v s := by
  constructor
  · intro h
    have e1 := decR_enc h1 h3 hr
    rw [h, decR_enc h1 h3 hs] at e1
    injection e1 with e1
    exact e1.symm
  · intro h
    rw [← encR_upg h1 h3 r, h, encR_upg h1 h3 s]

theorem decR_nil : decR [] = (zeroR, 2) := by simp [decR]

end Go.Proofs.Ytgpdbboieokldaa

/- Plain mathematics of layer crc: one bit of the register, the sum of bytes as that bit's step repeated, and what follows. No program is named here. -/
namespace Go.Proofs.Ytgpdbboieokldaa

/-- One bit: half of it, exclusive or the polynomial, if it was odd. -/
def tick (x : Nat) : Nat := if x % 2 = 1 then x / 2 ^^^ 2197175160 else x / 2

/-- So many bits. -/
def ticks : Nat → Nat → Nat
  | 0, x => x
  | n + 1, x => ticks n (tick x)

/-- The table's entry. -/
def entry (c : Nat) : Nat := ticks 8 c

/-- One byte of a sum. -/
def crcByte (x c : Nat) : Nat := entry ((x ^^^ c) % 256) ^^^ x / 256

/-- The register behind bytes. -/
def crcReg : Nat → List UInt8 → Nat
  | x, [] => x
  | x, c :: r => crcReg (crcByte x c.toNat) r

/-- What More answers. -/
def crcMore (sum : Nat) (l : List UInt8) : Nat := crcReg (sum ^^^ 4294967295) l ^^^ 4294967295

theorem xor_mod2 (a b : Nat) : (a ^^^ b) % 2 = (a % 2 + b % 2) % 2 := by
  have h := @Nat.xor_mod_two_pow a b 1
  simp only [Nat.pow_one] at h
  rw [h]
  rcases Nat.mod_two_eq_zero_or_one a with ha | ha <;> rcases Nat.mod_two_eq_zero_or_one b with hb | hb <;> rw [ha, hb] <;> rfl

theorem xor_div2 (a b : Nat) : (a ^^^ b) / 2 = a / 2 ^^^ b / 2 := by
  have h := @Nat.shiftRight_xor_distrib 1 a b
  simpa [Nat.shiftRight_eq_div_pow] using h

theorem xor_cancel4 (a b p : Nat) : (a ^^^ p) ^^^ (b ^^^ p) = a ^^^ b := by
  rw [Nat.xor_comm b p, ← Nat.xor_assoc, Nat.xor_assoc a p p, Nat.xor_self, Nat.xor_zero]

theorem tick_xor (a b : Nat) : tick (a ^^^ b) = tick a ^^^ tick b := by
  unfold tick
  rw [xor_mod2, xor_div2]
  rcases Nat.mod_two_eq_zero_or_one a with ha | ha <;> rcases Nat.mod_two_eq_zero_or_one b with hb | hb <;> simp only [ha, hb]
  · rfl
  · simp [Nat.xor_assoc]
  · simp only [if_true, if_false, Nat.zero_ne_one]
    rw [Nat.xor_assoc, Nat.xor_assoc, Nat.xor_comm (b / 2)]
  · simp [xor_cancel4]

theorem ticks_xor : ∀ (n a b : Nat), ticks n (a ^^^ b) = ticks n a ^^^ ticks n b
  | 0, _, _ => rfl
  | n + 1, a, b => by
    simp only [ticks]
    rw [tick_xor, ticks_xor n]

theorem ticks_add : ∀ (m n x : Nat), ticks (m + n) x = ticks n (ticks m x)
  | 0, n, x => by rw [Nat.zero_add]; rfl
  | m + 1, n, x => by
    rw [Nat.add_right_comm]
    simp only [ticks]
    exact ticks_add m n (tick x)

theorem tick_even (x : Nat) : tick (2 * x) = x := by
  unfold tick
  rw [if_neg (by omega)]
  omega

theorem ticks_pow : ∀ (n x : Nat), ticks n (2 ^ n * x) = x
  | 0, x => by simp [ticks]
  | n + 1, x => by
    simp only [ticks]
    rw [Nat.pow_succ, Nat.mul_comm (2 ^ n) 2, Nat.mul_assoc, tick_even]
    exact ticks_pow n x

theorem tick_lt {n x : Nat} (hn : 32 ≤ n) (h : x < 2 ^ n) : tick x < 2 ^ n := by
  unfold tick
  have h2 : x / 2 < 2 ^ n := by omega
  split
  · refine Nat.xor_lt_two_pow h2 (Nat.lt_of_lt_of_le (by decide : 2197175160 < 2 ^ 32) (Nat.pow_le_pow_right (by decide) hn))
  · exact h2

theorem ticks_lt : ∀ (k : Nat) {n x : Nat}, 32 ≤ n → x < 2 ^ n → ticks k x < 2 ^ n
  | 0, _, _, _, h => h
  | k + 1, _, _, hn, h => ticks_lt k hn (tick_lt hn h)

theorem xor_zero_eq {a b : Nat} (h : a ^^^ b = 0) : a = b := by
  have e : (a ^^^ b) ^^^ b = 0 ^^^ b := by rw [h]
  rwa [Nat.xor_assoc, Nat.xor_self, Nat.xor_zero, Nat.zero_xor] at e

theorem xor_right {a b c : Nat} (h : a ^^^ c = b ^^^ c) : a = b := by
  have e : (a ^^^ c) ^^^ c = (b ^^^ c) ^^^ c := by rw [h]
  rwa [Nat.xor_assoc, Nat.xor_self, Nat.xor_zero, Nat.xor_assoc, Nat.xor_self, Nat.xor_zero] at e

theorem tick_zero {x : Nat} (hx : x < 4294967296) (h : tick x = 0) : x = 0 := by
  unfold tick at h
  split at h
  · have := xor_zero_eq h
    omega
  · omega

theorem ticks_zero : ∀ (k : Nat) {x : Nat}, x < 4294967296 → ticks k x = 0 → x = 0
  | 0, _, _, h => h
  | k + 1, x, hx, h => tick_zero hx (ticks_zero k (by have := tick_lt (n := 32) (Nat.le_refl _) (by omega : x < 2 ^ 32); omega) h)

theorem ticks_inj (k : Nat) {a b : Nat} (ha : a < 4294967296) (hb : b < 4294967296) (h : ticks k a = ticks k b) : a = b := by
  apply xor_zero_eq
  have hlt : a ^^^ b < 2 ^ 32 := Nat.xor_lt_two_pow (by omega) (by omega)
  apply ticks_zero k (by omega)
  rw [ticks_xor, h, Nat.xor_self]

/-- A number is its low bits, exclusive or what is above them. -/
theorem low_high (z n : Nat) : z = z % 2 ^ n ^^^ 2 ^ n * (z / 2 ^ n) := by
  apply Nat.eq_of_testBit_eq
  intro i
  rw [Nat.testBit_xor, Nat.testBit_mod_two_pow, Nat.testBit_two_pow_mul]
  by_cases h : i < n
  · have h2 : ¬ n ≤ i := by omega
    simp [h, h2]
  · have h2 : n ≤ i := by omega
    simp only [h, h2, decide_false, decide_true, Bool.false_and, Bool.true_and, Bool.false_xor, Nat.testBit_div_two_pow]
    rw [Nat.sub_add_cancel h2]

theorem crcByte_ticks (x c : Nat) (hc : c < 256) : crcByte x c = ticks 8 (x ^^^ c) := by
  have e : (x ^^^ c) / 256 = x / 256 := by
    have h := @Nat.shiftRight_xor_distrib 8 x c
    simp only [Nat.shiftRight_eq_div_pow] at h
    have h0 : c / 2 ^ 8 = 0 := by omega
    rw [h0, Nat.xor_zero] at h
    exact h
  have h := low_high (x ^^^ c) 8
  unfold crcByte entry
  conv => rhs; rw [h]
  rw [ticks_xor, ticks_pow]
  show _ = ticks 8 ((x ^^^ c) % 256) ^^^ (x ^^^ c) / 256
  rw [e]

theorem leNat_cons_xor (c : UInt8) (r : List UInt8) : Lib.leNat (c :: r) = c.toNat ^^^ 2 ^ 8 * Lib.leNat r := by
  have hc := c.toNat_lt
  have h := low_high (Lib.leNat (c :: r)) 8
  have e1 : Lib.leNat (c :: r) % 2 ^ 8 = c.toNat := by simp only [Lib.leNat]; omega
  have e2 : Lib.leNat (c :: r) / 2 ^ 8 = Lib.leNat r := by simp only [Lib.leNat]; omega
  rw [e1, e2] at h
  exact h

/-- The register behind bytes is that bit's step, eight times a byte, of the register and the bytes' number. -/
theorem crcReg_ticks : ∀ (l : List UInt8) (x : Nat), crcReg x l = ticks (8 * l.length) (x ^^^ Lib.leNat l)
  | [], x => by simp [crcReg, Lib.leNat, ticks]
  | c :: r, x => by
    have hc := c.toNat_lt
    rw [crcReg, crcReg_ticks r, crcByte_ticks x c.toNat (by omega), leNat_cons_xor, ← Nat.xor_assoc]
    have e : 8 * (c :: r).length = 8 + 8 * r.length := by simp; omega
    rw [e, ticks_add, ticks_xor 8 (x ^^^ c.toNat) (2 ^ 8 * Lib.leNat r), ticks_pow]

theorem crcReg_append : ∀ (a b : List UInt8) (x : Nat), crcReg x (a ++ b) = crcReg (crcReg x a) b
  | [], _, _ => rfl
  | c :: r, b, x => by
    rw [List.cons_append, crcReg, crcReg]
    exact crcReg_append r b _

theorem crcByte_lt {x c : Nat} (hx : x < 4294967296) (hc : c < 256) : crcByte x c < 4294967296 := by
  rw [crcByte_ticks x c hc]
  have h : x ^^^ c < 2 ^ 32 := Nat.xor_lt_two_pow (by omega) (by omega)
  have := ticks_lt 8 (Nat.le_refl 32) h
  omega

theorem crcReg_lt : ∀ (l : List UInt8) {x : Nat}, x < 4294967296 → crcReg x l < 4294967296
  | [], _, h => h
  | c :: r, x, h => crcReg_lt r (crcByte_lt h (by have := c.toNat_lt; omega))

theorem not_not (x : Nat) : (x ^^^ 4294967295) ^^^ 4294967295 = x := by rw [Nat.xor_assoc, Nat.xor_self, Nat.xor_zero]

theorem not_lt {x : Nat} (h : x < 4294967296) : x ^^^ 4294967295 < 4294967296 := by
  have := Nat.xor_lt_two_pow (n := 32) (by omega : x < 2 ^ 32) (by decide : 4294967295 < 2 ^ 32)
  omega

theorem not_inj {a b : Nat} (h : a ^^^ 4294967295 = b ^^^ 4294967295) : a = b := by
  rw [← not_not a, h, not_not]

theorem crcMore_lt {sum : Nat} (l : List UInt8) (h : sum < 4294967296) : crcMore sum l < 4294967296 := not_lt (crcReg_lt l (not_lt h))

theorem crcMore_append (sum : Nat) (a b : List UInt8) : crcMore sum (a ++ b) = crcMore (crcMore sum a) b := by
  unfold crcMore
  rw [crcReg_append, not_not]

theorem crcMore_nil (sum : Nat) : crcMore sum [] = sum := not_not sum

/-- Two sums that are not the same go on to two sums. -/
theorem crcMore_seeds {a b : Nat} (l : List UInt8) (ha : a < 4294967296) (hb : b < 4294967296) : crcMore a l = crcMore b l ↔ a = b := by
  constructor
  · intro h
    have h2 := not_inj h
    rw [crcReg_ticks, crcReg_ticks, ticks_xor _ (a ^^^ 4294967295), ticks_xor _ (b ^^^ 4294967295)] at h2
    exact not_inj (ticks_inj _ (not_lt ha) (not_lt hb) (xor_right h2))
  · intro h
    rw [h]

/-- Of two texts of one length: their sums' difference is that of their numbers. -/
theorem crcMore_diff (sum : Nat) (a b : List UInt8) (h : a.length = b.length) : crcMore sum a ^^^ crcMore sum b = ticks (8 * a.length) (Lib.leNat a ^^^ Lib.leNat b) := by
  unfold crcMore
  rw [xor_cancel4, crcReg_ticks, crcReg_ticks, ← h, ← ticks_xor, Nat.xor_comm _ (Lib.leNat a), Nat.xor_comm _ (Lib.leNat b), xor_cancel4]

/-- Whether the low n bits are an odd number of ones. -/
def odds : Nat → Nat → Bool
  | 0, _ => false
  | n + 1, x => (decide (x % 2 = 1)) ^^ odds n (x / 2)

theorem odds_xor : ∀ (n a b : Nat), odds n (a ^^^ b) = (odds n a ^^ odds n b)
  | 0, _, _ => rfl
  | n + 1, a, b => by
    simp only [odds]
    rw [xor_mod2, xor_div2, odds_xor n]
    have e : decide ((a % 2 + b % 2) % 2 = 1) = (decide (a % 2 = 1) ^^ decide (b % 2 = 1)) := by
      rcases Nat.mod_two_eq_zero_or_one a with ha | ha <;> rcases Nat.mod_two_eq_zero_or_one b with hb | hb <;> simp [ha, hb]
    rw [e]
    cases decide (a % 2 = 1) <;> cases decide (b % 2 = 1) <;> cases odds n (a / 2) <;> cases odds n (b / 2) <;> rfl

theorem odds_zero : ∀ n : Nat, odds n 0 = false
  | 0 => rfl
  | n + 1 => by simp [odds, odds_zero n]

/-- Bits beyond the number count nothing. -/
theorem odds_more : ∀ (n x : Nat), x < 2 ^ n → odds (n + 1) x = odds n x
  | 0, x, h => by
    have e : x = 0 := by simpa using h
    subst e
    rfl
  | n + 1, x, h => by
    rw [odds, odds_more n (x / 2) (by rw [Nat.pow_succ] at h; omega)]
    rfl

theorem odds_poly : ∀ n : Nat, odds (n + 32) 2197175160 = true
  | 0 => by decide
  | n + 1 => by
    have h : 2197175160 < 2 ^ (n + 32) := Nat.lt_of_lt_of_le (by decide : 2197175160 < 2 ^ 32) (Nat.pow_le_pow_right (by decide) (by omega))
    have e : n + 1 + 32 = n + 32 + 1 := by omega
    rw [e, odds_more _ _ h]
    exact odds_poly n

theorem odds_tick (n x : Nat) (h : x < 2 ^ (n + 32)) : odds (n + 32) (tick x) = odds (n + 32) x := by
  have e : odds (n + 32) x = (decide (x % 2 = 1) ^^ odds (n + 32) (x / 2)) := (odds_more (n + 32) x h).symm
  rw [e]
  generalize hm : n + 32 = m
  have hp : odds m 2197175160 = true := by rw [← hm]; exact odds_poly n
  unfold tick
  by_cases hx : x % 2 = 1
  · rw [if_pos hx, odds_xor, hp]
    simp [hx]
  · rw [if_neg hx]
    simp [hx]

theorem odds_ticks : ∀ (k n x : Nat), x < 2 ^ (n + 32) → odds (n + 32) (ticks k x) = odds (n + 32) x
  | 0, _, _, _ => rfl
  | k + 1, n, x, h => by
    rw [ticks, odds_ticks k n (tick x) (tick_lt (by omega) h), odds_tick n x h]

theorem odds_pow : ∀ (n k : Nat), k < n → odds n (2 ^ k) = true
  | 0, _, h => by omega
  | n + 1, 0, _ => by
    have e : (2 ^ 0) / 2 = 0 := by decide
    rw [odds, e, odds_zero]
    decide
  | n + 1, k + 1, h => by
    have e1 : 2 ^ (k + 1) % 2 = 0 := by rw [Nat.pow_succ]; omega
    have e2 : 2 ^ (k + 1) / 2 = 2 ^ k := by rw [Nat.pow_succ]; omega
    rw [odds, e1, e2, odds_pow n k (by omega)]
    rfl

/-- A difference of an odd number of bits is seen. -/
theorem odd_seen (n k x : Nat) (h : x < 2 ^ (n + 32)) (ho : odds (n + 32) x = true) : ticks k x ≠ 0 := by
  intro e
  have h2 := odds_ticks k n x h
  rw [e, odds_zero, ho] at h2
  cases h2

/-- A difference within 32 bits in a row is seen. -/
theorem burst_seen (k at' x : Nat) (h0 : x ≠ 0) (hx : x < 4294967296) : ticks (at' + k) (2 ^ at' * x) ≠ 0 := by
  rw [ticks_add, ticks_pow]
  exact fun e => h0 (ticks_zero k hx e)

theorem leNat_lt256 : ∀ l : List UInt8, Lib.leNat l < 2 ^ (8 * l.length)
  | [] => by simp [Lib.leNat]
  | c :: r => by
    have h := leNat_lt256 r
    have hc := c.toNat_lt
    have e : 8 * (c :: r).length = 8 * r.length + 8 := by simp; omega
    simp only [Lib.leNat]
    rw [e, Nat.pow_add]
    omega

/-- Turning bits of one byte turns bits of the number. -/
theorem leNat_set : ∀ (l : List UInt8) (i : Nat) (y : UInt8), i < l.length → Lib.leNat (l.set i (l.getD i 0 ^^^ y)) = Lib.leNat l ^^^ 2 ^ (8 * i) * y.toNat
  | c :: r, 0, y, _ => by
    have e : (c :: r).set 0 ((c :: r).getD 0 0 ^^^ y) = (c ^^^ y) :: r := by simp
    rw [e, leNat_cons_xor, leNat_cons_xor, UInt8.toNat_xor, Nat.xor_assoc, Nat.xor_assoc, Nat.xor_comm y.toNat]
    simp
  | c :: r, i + 1, y, h => by
    have e : (c :: r).set (i + 1) ((c :: r).getD (i + 1) 0 ^^^ y) = c :: r.set i (r.getD i 0 ^^^ y) := by simp
    rw [e, leNat_cons_xor, leNat_cons_xor, leNat_set r i y (by simpa using h)]
    have e2 : 2 ^ (8 * (i + 1)) * y.toNat = 2 ^ 8 * (2 ^ (8 * i) * y.toNat) := by rw [Nat.mul_add, Nat.pow_add, Nat.mul_one, Nat.mul_comm (2 ^ (8 * i)), Nat.mul_assoc]
    rw [e2, Nat.xor_assoc]
    congr 1
    apply Nat.eq_of_testBit_eq
    intro j
    simp only [Nat.testBit_xor, Nat.testBit_two_pow_mul]
    cases decide (8 ≤ j) <;> simp

end Go.Proofs.Ytgpdbboieokldaa

/- Frames: the mathematics of layer frame. -/
namespace Go.Proofs.Ytgpdbboieokldaa

/-- The length and the data. -/
def headOf (l : List UInt8) : List UInt8 := Lib.uvarint l.length ++ l

/-- The frame of data. -/
def frameOf (l : List UInt8) : List UInt8 := headOf l ++ Lib.leBytes 4 (crcMore 0 (headOf l))

/-- Bytes that may be the beginning of a length. -/
def isOpen (l : List UInt8) : Prop := l.length < 10 ∧ ∀ j, j < l.length → 128 ≤ (l.getD j 0).toNat

instance (l : List UInt8) : Decidable (isOpen l) := by unfold isOpen; infer_instance

/-- What Decode answers: the data, how many bytes the frame has, the error. -/
def decF (l : List UInt8) : List UInt8 × Nat × Nat :=
  if isOpen l then ([], 0, 2) else
  if (dec62 l).2 = 0 then ([], 0, 3) else
  if 1048576 < (dec62 l).1 then ([], 0, 5) else
  if l.length < (dec62 l).2 + 4 + (dec62 l).1 then ([], 0, 2) else
  if Lib.leNat ((l.drop ((dec62 l).2 + (dec62 l).1)).take 4) ≠ crcMore 0 (l.take ((dec62 l).2 + (dec62 l).1)) then ([], 0, 4) else
  ((l.drop (dec62 l).2).take (dec62 l).1, (dec62 l).2 + 4 + (dec62 l).1, 0)

theorem crc_lt (l : List UInt8) : crcMore 0 l < 4294967296 := crcMore_lt l (by decide)

theorem frameOf_length (l : List UInt8) : (frameOf l).length = (Lib.uvarint l.length).length + l.length + 4 := by
  simp [frameOf, headOf, Lib.leBytes_length]
  omega

theorem len3 {n : Nat} (h : n ≤ 1048576) : (Lib.uvarint n).length ≤ 3 := Lib.uvarint_length 2 n (Nat.lt_of_le_of_lt h (by decide))

theorem open_dec {l : List UInt8} (h : isOpen l) : dec62 l = (0, 0) := by
  have e : dec64 l = (0, 0) := by
    unfold dec64
    rw [dec_miss 10 l (fun j _ hj => h.2 j hj)]
  unfold dec62
  rw [e]
  rfl

theorem dec62_head (x t : List UInt8) (h : x.length ≤ 1048576) : dec62 (Lib.uvarint x.length ++ t) = (x.length, (Lib.uvarint x.length).length) := dec62_uvarint _ _ (by omega)

theorem leBytes_leNat : ∀ (l : List UInt8), Lib.leBytes l.length (Lib.leNat l) = l
  | [] => rfl
  | c :: r => by
    have ih := leBytes_leNat r
    have hc := c.toNat_lt
    have e1 : (c.toNat + 256 * Lib.leNat r) % 256 = c.toNat := by omega
    have e2 : (c.toNat + 256 * Lib.leNat r) / 256 = Lib.leNat r := by omega
    simp only [List.length_cons, Lib.leNat, Lib.leBytes, e1, e2, ih]
    simp

/-- What was encoded is decoded, whatever stands behind it. -/
theorem decF_frame (x t : List UInt8) (h : x.length ≤ 1048576) : decF (frameOf x ++ t) = (x, (frameOf x).length, 0) := by
  have hd : dec62 (frameOf x ++ t) = (x.length, (Lib.uvarint x.length).length) := by
    have e : frameOf x ++ t = Lib.uvarint x.length ++ (x ++ Lib.leBytes 4 (crcMore 0 (headOf x)) ++ t) := by simp [frameOf, headOf]
    rw [e]
    exact dec62_head x _ h
  have hp := Lib.uvarint_pos x.length
  have ho : ¬ isOpen (frameOf x ++ t) := fun ho => by
    have := open_dec ho
    rw [hd, Prod.mk.injEq] at this
    omega
  have hl : (frameOf x ++ t).length = (Lib.uvarint x.length).length + x.length + 4 + t.length := by rw [List.length_append, frameOf_length]
  have hh : (headOf x).length = (Lib.uvarint x.length).length + x.length := by simp [headOf]
  have e1 : (frameOf x ++ t).take ((Lib.uvarint x.length).length + x.length) = headOf x := by
    rw [← hh, frameOf, List.append_assoc, List.take_left]
  have e2 : ((frameOf x ++ t).drop ((Lib.uvarint x.length).length + x.length)).take 4 = Lib.leBytes 4 (crcMore 0 (headOf x)) := by
    rw [← hh, frameOf, List.append_assoc, List.drop_left, List.take_append_of_le_length (by rw [Lib.leBytes_length]; exact Nat.le_refl _), List.take_of_length_le (by rw [Lib.leBytes_length]; exact Nat.le_refl _)]
  have e3 : ((frameOf x ++ t).drop (Lib.uvarint x.length).length).take x.length = x := by
    have e : frameOf x ++ t = Lib.uvarint x.length ++ (x ++ (Lib.leBytes 4 (crcMore 0 (headOf x)) ++ t)) := by simp [frameOf, headOf]
    rw [e, List.drop_left, List.take_left]
  unfold decF
  rw [if_neg ho]
  simp only [hd]
  rw [if_neg (by omega), if_neg (by omega), if_neg (by omega), if_neg (by rw [e1, e2, Lib.leNat_leBytes 4 _ (crc_lt _)]; simp), e3, frameOf_length]
  congr 2
  omega

/-- What is decoded is of a frame. -/
theorem decF_ok {l : List UInt8} (h : (decF l).2.2 = 0) :
    (decF l).1.length ≤ 1048576 ∧ (decF l).2.1 = (frameOf (decF l).1).length ∧ (decF l).2.1 ≤ l.length ∧ l.take (decF l).2.1 = frameOf (decF l).1 := by
  unfold decF at h ⊢
  by_cases c1 : isOpen l
  · rw [if_pos c1] at h; simp at h
  rw [if_neg c1] at h ⊢
  by_cases c2 : (dec62 l).2 = 0
  · rw [if_pos c2] at h; simp at h
  rw [if_neg c2] at h ⊢
  by_cases c3 : 1048576 < (dec62 l).1
  · rw [if_pos c3] at h; simp at h
  rw [if_neg c3] at h ⊢
  by_cases c4 : l.length < (dec62 l).2 + 4 + (dec62 l).1
  · rw [if_pos c4] at h; simp at h
  rw [if_neg c4] at h ⊢
  by_cases c5 : Lib.leNat ((l.drop ((dec62 l).2 + (dec62 l).1)).take 4) ≠ crcMore 0 (l.take ((dec62 l).2 + (dec62 l).1))
  · rw [if_pos c5] at h; simp at h
  rw [if_neg c5]
  clear h
  rcases dec62_cases l with hc | ⟨h1, h2, h3, h4⟩
  · rw [hc] at c2; simp at c2
  generalize (dec62 l).1 = n at *
  generalize (dec62 l).2 = k at *
  have hx : ((l.drop k).take n).length = n := by simp; omega
  have hk : (Lib.uvarint n).length = k := by rw [← h4]; simp; omega
  have hhead : headOf ((l.drop k).take n) = l.take (k + n) := by
    unfold headOf
    rw [hx, ← h4, List.take_add]
  have htail : (l.drop (k + n)).take 4 = Lib.leBytes 4 (crcMore 0 (l.take (k + n))) := by
    have e := leBytes_leNat ((l.drop (k + n)).take 4)
    have e4 : ((l.drop (k + n)).take 4).length = 4 := by simp; omega
    rw [e4] at e
    rw [← Decidable.not_not.1 c5, e]
  refine ⟨by show ((l.drop k).take n).length ≤ _; omega, ?_, by show k + 4 + n ≤ _; omega, ?_⟩
  · show k + 4 + n = _
    rw [frameOf_length, hx, hk]
    omega
  · show l.take (k + 4 + n) = frameOf ((l.drop k).take n)
    unfold frameOf
    rw [hhead, ← htail, show k + 4 + n = (k + n) + 4 by omega, List.take_add]

theorem decF_err {l : List UInt8} (h : (decF l).2.2 ≠ 0) : (decF l).1 = [] ∧ (decF l).2.1 = 0 := by
  unfold decF at h ⊢
  split
  · exact ⟨rfl, rfl⟩
  split
  · exact ⟨rfl, rfl⟩
  split
  · exact ⟨rfl, rfl⟩
  split
  · exact ⟨rfl, rfl⟩
  split
  · exact ⟨rfl, rfl⟩
  · rename_i c1 c2 c3 c4 c5
    rw [if_neg c1, if_neg c2, if_neg c3, if_neg c4, if_neg c5] at h
    simp at h

theorem decF_codes (l : List UInt8) : (decF l).2.2 < 6 := by
  unfold decF
  repeat' split
  all_goals simp

theorem decF_five {l : List UInt8} (h : (decF l).2.2 = 0) : 5 ≤ (decF l).2.1 := by
  obtain ⟨_, h2, _, _⟩ := decF_ok h
  rw [h2, frameOf_length]
  have := Lib.uvarint_pos (decF l).1.length
  omega

theorem decF_le (l : List UInt8) : (decF l).2.1 ≤ l.length := by
  by_cases h : (decF l).2.2 = 0
  · exact (decF_ok h).2.2.1
  · rw [(decF_err h).2]; omega

theorem decF_data_le (l : List UInt8) : (decF l).1.length ≤ l.length := by
  by_cases h : (decF l).2.2 = 0
  · obtain ⟨_, h2, h3, _⟩ := decF_ok h
    rw [h2, frameOf_length] at h3
    omega
  · rw [(decF_err h).1]; simp

/-- A frame that is cut off. -/
theorem decF_cut (x : List UInt8) (m : Nat) (h : x.length ≤ 1048576) (hm : m < (frameOf x).length) : decF ((frameOf x).take m) = ([], 0, 2) := by
  have h3 := len3 h
  by_cases hk : m < (Lib.uvarint x.length).length
  · have ho : isOpen ((frameOf x).take m) := by
      have e : (frameOf x).take m = (Lib.uvarint x.length).take m := by
        rw [frameOf, headOf, List.append_assoc, List.take_append_of_le_length (by omega)]
      rw [e]
      refine ⟨by simp; omega, fun j hj => ?_⟩
      have hj' : j < m := by simp at hj; omega
      have e2 : ((Lib.uvarint x.length).take m).getD j 0 = (Lib.uvarint x.length).getD j 0 := by simp [List.getD, hj']
      rw [e2]
      exact uvarint_open _ _ j (Nat.le_refl _) (by omega)
    unfold decF
    rw [if_pos ho]
  · have hlen : ((frameOf x).take m).length = m := by simp; omega
    have hd : dec62 ((frameOf x).take m) = (x.length, (Lib.uvarint x.length).length) := by
      have e : (frameOf x).take m = Lib.uvarint x.length ++ (x ++ Lib.leBytes 4 (crcMore 0 (headOf x))).take (m - (Lib.uvarint x.length).length) := by
        rw [frameOf, headOf, List.append_assoc, List.take_append, List.take_of_length_le (by omega)]
      rw [e]
      exact dec62_head x _ h
    have hp := Lib.uvarint_pos x.length
    have ho : ¬ isOpen ((frameOf x).take m) := fun ho => by
      have := open_dec ho
      rw [hd, Prod.mk.injEq] at this
      omega
    rw [frameOf_length] at hm
    unfold decF
    rw [if_neg ho]
    simp only [hd, hlen]
    rw [if_neg (by omega), if_neg (by omega), if_pos (by omega)]

/-- Whole frames with their sum have one sum all. -/
theorem frame_sum (x : List UInt8) : crcMore 0 (frameOf x) = ticks 32 4294967295 ^^^ 4294967295 := by
  unfold frameOf
  have hl := crc_lt (headOf x)
  rw [crcMore_append]
  generalize crcMore 0 (headOf x) = s at *
  unfold crcMore
  rw [crcReg_ticks, Lib.leBytes_length, Lib.leNat_leBytes 4 s hl]
  congr 2
  rw [Nat.xor_comm s, Nat.xor_assoc, Nat.xor_self, Nat.xor_zero]

/-- All whole frames, by a number of rounds. -/
def wholeG : Nat → List UInt8 → List (List UInt8) × Nat × Nat
  | 0, _ => ([], 0, 0)
  | f + 1, l => if l = [] then ([], 0, 0) else if (decF l).2.2 ≠ 0 then ([], 0, (decF l).2.2) else
      ((decF l).1 :: (wholeG f (l.drop (decF l).2.1)).1, (decF l).2.1 + (wholeG f (l.drop (decF l).2.1)).2.1, (wholeG f (l.drop (decF l).2.1)).2.2)

/-- All whole frames, how many bytes these have, and the error that ends them. -/
def wholeF (l : List UInt8) : List (List UInt8) × Nat × Nat := wholeG l.length l

theorem wholeG_more : ∀ (f g : Nat) (l : List UInt8), l.length ≤ f → l.length ≤ g → wholeG f l = wholeG g l
  | 0, g, l, h, _ => by
    have e : l = [] := List.eq_nil_of_length_eq_zero (by omega)
    subst e
    cases g <;> simp [wholeG]
  | f + 1, 0, l, _, h => by
    have e : l = [] := List.eq_nil_of_length_eq_zero (by omega)
    subst e
    simp [wholeG]
  | f + 1, g + 1, l, hf, hg => by
    unfold wholeG
    by_cases e : l = []
    · rw [if_pos e, if_pos e]
    rw [if_neg e, if_neg e]
    by_cases e2 : (decF l).2.2 ≠ 0
    · rw [if_pos e2, if_pos e2]
    rw [if_neg e2, if_neg e2]
    have h5 := decF_five (Decidable.not_not.1 e2)
    rw [wholeG_more f g (l.drop (decF l).2.1) (by simp; omega) (by simp; omega)]

theorem wholeF_nil : wholeF [] = ([], 0, 0) := rfl

theorem wholeF_stop {l : List UInt8} (h0 : l ≠ []) (h : (decF l).2.2 ≠ 0) : wholeF l = ([], 0, (decF l).2.2) := by
  unfold wholeF
  cases l with
  | nil => exact absurd rfl h0
  | cons c r =>
    rw [List.length_cons, wholeG, if_neg h0, if_pos h]

theorem wholeF_step {l : List UInt8} (h0 : l ≠ []) (h : (decF l).2.2 = 0) :
    wholeF l = ((decF l).1 :: (wholeF (l.drop (decF l).2.1)).1, (decF l).2.1 + (wholeF (l.drop (decF l).2.1)).2.1, (wholeF (l.drop (decF l).2.1)).2.2) := by
  have h5 := decF_five h
  unfold wholeF
  cases l with
  | nil => exact absurd rfl h0
  | cons c r =>
    rw [List.length_cons, wholeG, if_neg h0, if_neg (Decidable.not_not.2 h), wholeG_more r.length ((c :: r).drop (decF (c :: r)).2.1).length _ (by simp; omega) (Nat.le_refl _)]

/-- Frames, one behind the other. -/
def framesOf (L : List (List UInt8)) : List UInt8 := L.flatMap frameOf

/-- Where the frames end that are whole within so many bytes, and how many they are. -/
def wholes : List (List UInt8) → Nat → Nat × Nat
  | [], _ => (0, 0)
  | x :: L, m => if (frameOf x).length ≤ m then ((wholes L (m - (frameOf x).length)).1 + 1, (wholes L (m - (frameOf x).length)).2 + (frameOf x).length) else (0, 0)

theorem wholes_le : ∀ (L : List (List UInt8)) (m : Nat), (wholes L m).1 ≤ L.length ∧ (wholes L m).2 ≤ m
  | [], m => by simp [wholes]
  | x :: L, m => by
    have ih := wholes_le L (m - (frameOf x).length)
    unfold wholes
    split
    · simp; omega
    · simp

theorem wholeF_cut : ∀ (L : List (List UInt8)) (m : Nat), (∀ x ∈ L, x.length ≤ 1048576) → m ≤ (framesOf L).length →
    wholeF ((framesOf L).take m) = (L.take (wholes L m).1, (wholes L m).2, if (wholes L m).2 = m then 0 else 2)
  | [], m, _, hm => by
    have e : m = 0 := by simp [framesOf] at hm; omega
    subst e
    rfl
  | x :: L, m, hx, hm => by
    have hx1 := hx x (by simp)
    have hpos : 5 ≤ (frameOf x).length := by
      rw [frameOf_length]
      have := Lib.uvarint_pos x.length
      omega
    have eF : framesOf (x :: L) = frameOf x ++ framesOf L := by simp [framesOf]
    rw [eF] at hm ⊢
    rw [List.length_append] at hm
    by_cases hf : (frameOf x).length ≤ m
    · have et : (frameOf x ++ framesOf L).take m = frameOf x ++ (framesOf L).take (m - (frameOf x).length) := by
        rw [List.take_append, List.take_of_length_le hf]
      have ih := wholeF_cut L (m - (frameOf x).length) (fun y hy => hx y (by simp [hy])) (by omega)
      have hd := decF_frame x ((framesOf L).take (m - (frameOf x).length)) hx1
      have hne : frameOf x ++ (framesOf L).take (m - (frameOf x).length) ≠ [] := fun e => by
        have := congrArg List.length e
        rw [List.length_append, List.length_nil] at this
        omega
      rw [et, wholeF_step hne (by rw [hd]), hd]
      simp only [List.drop_left]
      have hw := (wholes_le L (m - (frameOf x).length)).2
      rw [ih, wholes, if_pos hf]
      simp only [List.take_succ_cons, Prod.mk.injEq, true_and]
      refine ⟨by omega, ?_⟩
      by_cases e : (wholes L (m - (frameOf x).length)).2 = m - (frameOf x).length
      · rw [if_pos e, if_pos (by omega)]
      · rw [if_neg e, if_neg (by omega)]
    · have et : (frameOf x ++ framesOf L).take m = (frameOf x).take m := by
        rw [List.take_append_of_le_length (by omega)]
      have hd := decF_cut x m hx1 (by omega)
      rw [et, wholes, if_neg hf]
      by_cases h0 : m = 0
      · subst h0
        rfl
      · have hne : (frameOf x).take m ≠ [] := fun e => by
          have := congrArg List.length e
          rw [List.length_take, List.length_nil] at this
          omega
        rw [wholeF_stop hne (by rw [hd]; decide), hd]
        simp only [List.take_zero, Prod.mk.injEq, true_and]
        rw [if_neg (by omega)]

/-- What Size answers. -/
def sizeF (n : Int) : Nat := if 0 ≤ n ∧ n ≤ 1048576 then (Lib.uvarint n.toNat).length + 4 + n.toNat else 0

/-- Where the search for the whole frames ends. -/
theorem wholes_at : ∀ (L : List (List UInt8)) (m k : Nat), k ≤ L.length → (framesOf (L.take k)).length ≤ m → (k = L.length ∨ m < (framesOf (L.take (k + 1))).length) → wholes L m = (k, (framesOf (L.take k)).length)
  | [], m, k, hk, _, _ => by
    have e : k = 0 := by simpa using hk
    subst e
    rfl
  | x :: L, m, 0, _, h1, h2 => by
    have e : (framesOf ((x :: L).take 1)).length = (frameOf x).length := by simp [framesOf]
    rcases h2 with h2 | h2
    · simp at h2
    · rw [e] at h2
      rw [wholes, if_neg (by omega)]
      rfl
  | x :: L, m, k + 1, hk, h1, h2 => by
    have ef : ∀ j, (framesOf ((x :: L).take (j + 1))).length = (frameOf x).length + (framesOf (L.take j)).length := by
      intro j
      simp [framesOf]
    rw [ef] at h1 h2
    have ih := wholes_at L (m - (frameOf x).length) k (by simpa using hk) (by omega) (by
      rcases h2 with h2 | h2
      · left; simpa using h2
      · right; omega)
    rw [wholes, if_pos (by omega), ih, ef]
    simp
    omega

end Go.Proofs.Ytgpdbboieokldaa

/- More of frames, over plain lists. -/
namespace Go.Proofs.Ytgpdbboieokldaa

theorem frameOf_len6 {d : List UInt8} (h : d.length ≤ 1048576) : (frameOf d).length ≤ d.length + 14 := by
  rw [frameOf_length]
  have : (Lib.uvarint d.length).length ≤ 10 := Lib.uvarint_length64 (by omega)
  omega

theorem framesOf_app (A B : List (List UInt8)) : framesOf (A ++ B) = framesOf A ++ framesOf B := by
  unfold framesOf
  rw [List.flatMap_append]

theorem framesOf_cons (x : List UInt8) (B : List (List UInt8)) : framesOf (x :: B) = frameOf x ++ framesOf B := by
  unfold framesOf
  rw [List.flatMap_cons]

theorem frameOf_pos (x : List UInt8) : 5 ≤ (frameOf x).length := by
  rw [frameOf_length]
  have := Lib.uvarint_pos x.length
  omega

theorem wholeF_frames (L : List (List UInt8)) (h : ∀ x ∈ L, x.length ≤ 1048576) : wholeF (framesOf L) = (L, (framesOf L).length, 0) := by
  have e := wholeF_cut L (framesOf L).length h (Nat.le_refl _)
  have hw := wholes_at L (framesOf L).length L.length (Nat.le_refl _) (by rw [List.take_length]; exact Nat.le_refl _) (.inl rfl)
  rw [List.take_length] at hw e
  rw [e, hw]
  simp

theorem wholeF_all : ∀ (n : Nat) (b : List UInt8), b.length ≤ n → (wholeF b).2.2 = 0 → framesOf (wholeF b).1 = b ∧ ∀ x ∈ (wholeF b).1, x.length ≤ 1048576
  | 0, b, hn, _ => by
    have e : b = [] := List.eq_nil_of_length_eq_zero (by omega)
    subst e
    rw [wholeF_nil]
    exact ⟨rfl, by simp⟩
  | n + 1, b, hn, h => by
    by_cases e : b = []
    · subst e
      rw [wholeF_nil]
      exact ⟨rfl, by simp⟩
    by_cases hd : (decF b).2.2 = 0
    · obtain ⟨d1, d2, d3, d4⟩ := decF_ok hd
      have h5 := decF_five hd
      rw [wholeF_step e hd] at h ⊢
      obtain ⟨i1, i2⟩ := wholeF_all n (b.drop (decF b).2.1) (by rw [List.length_drop]; omega) h
      refine ⟨?_, fun x hx => ?_⟩
      · show framesOf ((decF b).1 :: (wholeF (b.drop (decF b).2.1)).1) = b
        rw [framesOf_cons, i1, ← d4, List.take_append_drop]
      · rcases List.mem_cons.1 hx with hx | hx
        · rw [hx]; exact d1
        · exact i2 x hx
    · rw [wholeF_stop e hd] at h
      exact absurd h hd

end Go.Proofs.Ytgpdbboieokldaa

/- Snapshots as bytes, over plain lists, and what follows. -/
namespace Go.Proofs.Ytgpdbboieokldaa

/-- A process's last operation. -/
structure Ent where
  proc : Int
  seq : Int
  resp : Int

def zeroE : Ent := ⟨0, 0, 0⟩

theorem Ent.ext' {a b : Ent} (h1 : a.proc = b.proc) (h2 : a.seq = b.seq) (h3 : a.resp = b.resp) : a = b := by
  cases a
  cases b
  simp_all

instance : DecidableEq Ent := fun a b =>
  if h : a.proc = b.proc ∧ a.seq = b.seq ∧ a.resp = b.resp then .isTrue (Ent.ext' h.1 h.2.1 h.2.2)
  else .isFalse (fun e => h (by rw [e]; exact ⟨rfl, rfl, rfl⟩))

/-- A snapshot. -/
structure Snap where
  idx : Int
  st : St
  tab : List Ent

def zeroN : Snap := ⟨0, zeroS, []⟩

/-- Are an entry's numbers within their bounds? -/
def EntOk (e : Ent) : Prop := 0 ≤ e.proc ∧ e.proc ≤ 64 ∧ 0 ≤ e.seq ∧ e.seq < 4611686018427387904 ∧ -1125899906842624 ≤ e.resp ∧ e.resp ≤ 1125899906842624

instance (e : Ent) : Decidable (EntOk e) := by unfold EntOk; infer_instance

/-- The first k entries are those of a table. -/
def TabTo (t : List Ent) (k : Nat) : Prop := ∀ i, i < k → EntOk (t.getD i zeroE) ∧ (0 < i → (t.getD (i - 1) zeroE).proc < (t.getD i zeroE).proc)

instance (t : List Ent) (k : Nat) : Decidable (TabTo t k) := by unfold TabTo; infer_instance

/-- Is it a table? -/
def TabOk (t : List Ent) : Prop := TabTo t t.length

instance (t : List Ent) : Decidable (TabOk t) := by unfold TabOk; infer_instance

theorem TabTo.zero (t : List Ent) : TabTo t 0 := fun _ hi => absurd hi (Nat.not_lt_zero _)

theorem TabTo.next {t : List Ent} {k : Nat} : TabTo t (k + 1) ↔ TabTo t k ∧ EntOk (t.getD k zeroE) ∧ (0 < k → (t.getD (k - 1) zeroE).proc < (t.getD k zeroE).proc) := by
  constructor
  · intro h
    exact ⟨fun i hi => h i (by omega), (h k (by omega)).1, (h k (by omega)).2⟩
  · rintro ⟨h1, h2, h3⟩ i hi
    by_cases e : i = k
    · subst e
      exact ⟨h2, h3⟩
    · exact h1 i (by omega)

theorem TabTo.mono {t : List Ent} {k j : Nat} (h : TabTo t k) (hj : j ≤ k) : TabTo t j := fun i hi => h i (by omega)

theorem TabOk.mem {t : List Ent} (h : TabOk t) : ∀ e ∈ t, EntOk e := by
  intro e he
  obtain ⟨i, hi, rfl⟩ := List.getElem_of_mem he
  have := (h i hi).1
  simpa [List.getD, hi] using this

/-- May a snapshot be? -/
def MayN (s : Snap) : Prop := (0 ≤ s.idx ∧ s.idx < 4611686018427387904) ∧ MayS s.st ∧ TabOk s.tab

instance (s : Snap) : Decidable (MayN s) := by unfold MayN; infer_instance

/-- An entry's bytes. -/
def entL (e : Ent) : List UInt8 := Lib.uvarint e.proc.toNat ++ (Lib.uvarint e.seq.toNat ++ Lib.uvarint (Lib.zigzag e.resp))

def entsL (t : List Ent) : List UInt8 := t.flatMap entL

/-- A table's bytes. -/
def tabL (t : List Ent) : List UInt8 := Lib.uvarint t.length ++ entsL t

/-- The whole. -/
def wholeN (s : Snap) : List UInt8 := Lib.uvarint (encS s.st).length ++ (encS s.st ++ tabL s.tab)

/-- The manifest's data. -/
def maniN (i : Nat) (w : List UInt8) : List UInt8 := 115 :: (Lib.uvarint 3 ++ (Lib.uvarint i ++ (Lib.uvarint w.length ++ Lib.leBytes 4 (crcMore 0 w))))

/-- Bytes, cut into pieces of 64. -/
def pieces (l : List UInt8) : List (List UInt8) := if l = [] then [] else l.take 64 :: pieces (l.drop 64)
termination_by l.length
decreasing_by
  rename_i h
  have h1 : l.length ≠ 0 := by simpa using h
  rw [List.length_drop]
  omega

/-- A snapshot's frames' data. -/
def partsN (s : Snap) : List (List UInt8) := maniN s.idx.toNat (wholeN s) :: pieces (wholeN s)

/-- A snapshot's bytes. -/
def encN (s : Snap) : List UInt8 := framesOf (partsN s)

theorem pieces_nil : pieces [] = [] := by rw [pieces, if_pos rfl]

theorem pieces_cons {l : List UInt8} (h : l ≠ []) : pieces l = l.take 64 :: pieces (l.drop 64) := by rw [pieces, if_neg h]

theorem pieces_flat : ∀ (n : Nat) (l : List UInt8), l.length ≤ n → (pieces l).flatten = l
  | 0, l, h => by
    have e : l = [] := List.eq_nil_of_length_eq_zero (by omega)
    rw [e, pieces_nil]
    rfl
  | n + 1, l, h => by
    by_cases e : l = []
    · rw [e, pieces_nil]
      rfl
    · have h1 : l.length ≠ 0 := by simpa using e
      rw [pieces_cons e, List.flatten_cons, pieces_flat n (l.drop 64) (by rw [List.length_drop]; omega), List.take_append_drop]

theorem pieces_mem : ∀ (n : Nat) (l x : List UInt8), l.length ≤ n → x ∈ pieces l → x.length ≤ 64 ∧ 1 ≤ x.length
  | 0, l, x, h, hx => by
    have e : l = [] := List.eq_nil_of_length_eq_zero (by omega)
    rw [e, pieces_nil] at hx
    simp at hx
  | n + 1, l, x, h, hx => by
    by_cases e : l = []
    · rw [e, pieces_nil] at hx
      simp at hx
    · have h1 : l.length ≠ 0 := by simpa using e
      rw [pieces_cons e] at hx
      rcases List.mem_cons.1 hx with hx | hx
      · rw [hx, List.length_take]
        omega
      · exact pieces_mem n (l.drop 64) x (by rw [List.length_drop]; omega) hx

/-- How many bytes the frames of pieces have is told by how many bytes there are. -/
theorem pieces_len : ∀ (n : Nat) (a b : List UInt8), a.length ≤ n → a.length = b.length → (framesOf (pieces a)).length = (framesOf (pieces b)).length
  | 0, a, b, h, e => by
    have ea : a = [] := List.eq_nil_of_length_eq_zero (by omega)
    have eb : b = [] := List.eq_nil_of_length_eq_zero (by omega)
    rw [ea, eb]
  | n + 1, a, b, h, e => by
    by_cases ea : a = []
    · have eb : b = [] := List.eq_nil_of_length_eq_zero (by rw [← e, ea]; rfl)
      rw [ea, eb]
    · have h1 : a.length ≠ 0 := by simpa using ea
      have eb : b ≠ [] := fun h => h1 (by rw [e, h]; rfl)
      rw [pieces_cons ea, pieces_cons eb, framesOf_cons, framesOf_cons, List.length_append, List.length_append, frameOf_length, frameOf_length, List.length_take, List.length_take, e,
        pieces_len n (a.drop 64) (b.drop 64) (by rw [List.length_drop]; omega) (by rw [List.length_drop, List.length_drop, e])]

/-- Is data cut as told, by how many bytes the pieces have? -/
def CutOk : List (List UInt8) → Prop
  | [] => True
  | [x] => 1 ≤ x.length ∧ x.length ≤ 64
  | x :: y :: t => x.length = 64 ∧ CutOk (y :: t)

theorem cutOk_pieces : ∀ (L : List (List UInt8)), CutOk L → pieces L.flatten = L
  | [], _ => by rw [List.flatten_nil, pieces_nil]
  | [x], h => by
    obtain ⟨h1, h2⟩ := h
    have e : x ≠ [] := fun e => by rw [e] at h1; simp at h1
    have ef : [x].flatten = x := by simp
    rw [ef, pieces_cons e, List.take_of_length_le h2, List.drop_eq_nil_of_le h2, pieces_nil]
  | x :: y :: t, h => by
    obtain ⟨h1, h2⟩ := h
    have e : (x :: y :: t).flatten ≠ [] := fun e => by
      have := congrArg List.length e
      rw [List.flatten_cons, List.length_append, List.length_nil] at this
      omega
    have e1 : ((x :: y :: t).flatten).take 64 = x := by rw [List.flatten_cons, ← h1, List.take_left]
    have e2 : ((x :: y :: t).flatten).drop 64 = (y :: t).flatten := by rw [List.flatten_cons, ← h1, List.drop_left]
    rw [pieces_cons e, e1, e2, cutOk_pieces (y :: t) h2]

theorem pieces_cutOk : ∀ (n : Nat) (l : List UInt8), l.length ≤ n → CutOk (pieces l)
  | 0, l, h => by
    have e : l = [] := List.eq_nil_of_length_eq_zero (by omega)
    rw [e, pieces_nil]
    trivial
  | n + 1, l, h => by
    by_cases e : l = []
    · rw [e, pieces_nil]
      trivial
    · have h1 : l.length ≠ 0 := by simpa using e
      rw [pieces_cons e]
      have ih := pieces_cutOk n (l.drop 64) (by rw [List.length_drop]; omega)
      by_cases e2 : l.drop 64 = []
      · rw [e2, pieces_nil]
        have h3 : (l.take 64).length = min 64 l.length := List.length_take
        exact ⟨by omega, by omega⟩
      · have h2 : (l.drop 64).length ≠ 0 := fun e => e2 (List.eq_nil_of_length_eq_zero e)
        rw [List.length_drop] at h2
        rw [pieces_cons e2] at ih ⊢
        exact ⟨by rw [List.length_take]; omega, ih⟩

/-- The entries that bytes begin with, so many; what is left. -/
def readE : Nat → List UInt8 → Option (List Ent × List UInt8)
  | 0, b => some ([], b)
  | n + 1, b =>
    let i := (dec62 b).2
    let j := (dec62 (b.drop i)).2
    let k := (dec64 (b.drop (i + j))).2
    if i = 0 ∨ j = 0 ∨ k = 0 then none
    else (readE n (b.drop (i + j + k))).map (fun r => (⟨(dec62 b).1, (dec62 (b.drop i)).1, zag (dec64 (b.drop (i + j))).1⟩ :: r.1, r.2))

/-- The entries that bytes are. -/
def tableL (b : List UInt8) : Option (List Ent) :=
  if (dec62 b).2 = 0 ∨ b.length < (dec62 b).1 then none
  else match readE (dec62 b).1 (b.drop (dec62 b).2) with
    | some (t, []) => some t
    | _ => none

/-- The state and the table of a whole. -/
def readN (w : List UInt8) : Snap × Int :=
  if (dec62 w).2 = 0 ∨ w.length < (dec62 w).2 + (dec62 w).1 then (zeroN, 3)
  else if (decS ((w.drop (dec62 w).2).take (dec62 w).1)).2 = 3 then (zeroN, 3)
  else match tableL (w.drop ((dec62 w).2 + (dec62 w).1)) with
    | none => (zeroN, 3)
    | some t => (⟨0, (decS ((w.drop (dec62 w).2).take (dec62 w).1)).1, t⟩, (decS ((w.drop (dec62 w).2).take (dec62 w).1)).2)

/-- What a manifest's data tell: the index, the length, the sum, the error. -/
def maniL (d : List UInt8) : Nat × Nat × Nat × Int :=
  if d.length < 1 ∨ (d.getD 0 0).toNat ≠ 115 then (0, 0, 0, 3)
  else
    let i := (dec62 (d.drop 1)).2
    let j := (dec62 (d.drop (1 + i))).2
    let k := (dec62 (d.drop (1 + i + j))).2
    if i = 0 ∨ j = 0 ∨ k = 0 then (0, 0, 0, 3)
    else if (dec62 (d.drop 1)).1 ≠ 3 then (0, 0, 0, 6)
    else if (d.drop (1 + i + j + k)).length ≠ 4 then (0, 0, 0, 3)
    else ((dec62 (d.drop (1 + i))).1, (dec62 (d.drop (1 + i + j))).1, Lib.leNat (d.drop (1 + i + j + k)), 0)

instance cutOk_dec : ∀ L : List (List UInt8), Decidable (CutOk L)
  | [] => .isTrue trivial
  | [_] => by unfold CutOk; infer_instance
  | _ :: y :: t => by
    unfold CutOk
    exact @instDecidableAnd _ _ _ (cutOk_dec (y :: t))

/-- What frames' data tell. -/
def partsD (L : List (List UInt8)) : Snap × Int :=
  match L with
  | [] => (zeroN, 16)
  | d :: P =>
    if (maniL d).2.2.2 ≠ 0 then (zeroN, (maniL d).2.2.2)
    else if P.flatten.length ≠ (maniL d).2.1 then (zeroN, 16)
    else if ¬ CutOk P then (zeroN, 3)
    else if crcMore 0 P.flatten ≠ (maniL d).2.2.1 then (zeroN, 4)
    else if (readN P.flatten).2 ≠ 0 then (zeroN, (readN P.flatten).2)
    else if MayN ⟨((maniL d).1 : Nat), (readN P.flatten).1.st, (readN P.flatten).1.tab⟩ then (⟨((maniL d).1 : Nat), (readN P.flatten).1.st, (readN P.flatten).1.tab⟩, 0)
    else (zeroN, 1)

/-- The snapshot that bytes are, or the first error. -/
def decN (b : List UInt8) : Snap × Int :=
  if (wholeF b).2.2 ≠ 0 then (zeroN, ((wholeF b).2.2 : Nat)) else partsD (wholeF b).1

end Go.Proofs.Ytgpdbboieokldaa

/- Snapshots: encoded and decoded, once, cut. -/
namespace Go.Proofs.Ytgpdbboieokldaa

theorem take_drop_app (l : List UInt8) (a b : Nat) : (l.drop a).take b ++ l.drop (a + b) = l.drop a := by rw [← List.drop_drop, List.take_append_drop]

theorem entOk_small {e : Ent} (h : EntOk e) : e.proc.toNat < 4611686018427387904 ∧ e.seq.toNat < 4611686018427387904 ∧ I64 e.resp ∧ ((e.proc.toNat : Nat) : Int) = e.proc ∧ ((e.seq.toNat : Nat) : Int) = e.seq := by
  obtain ⟨h1, h2, h3, h4, h5, h6⟩ := h
  exact ⟨by omega, by omega, ⟨by omega, by omega⟩, by omega, by omega⟩

theorem readE_step {e : Ent} (h : EntOk e) (n : Nat) (t : List UInt8) : readE (n + 1) (entL e ++ t) = (readE n t).map (fun r => (e :: r.1, r.2)) := by
  obtain ⟨a1, a2, a3, a4, a5⟩ := entOk_small h
  have E : entL e ++ t = Lib.uvarint e.proc.toNat ++ (Lib.uvarint e.seq.toNat ++ (Lib.uvarint (Lib.zigzag e.resp) ++ t)) := by
    unfold entL
    simp only [List.append_assoc]
  have d1 := dec62_uvarint e.proc.toNat (Lib.uvarint e.seq.toNat ++ (Lib.uvarint (Lib.zigzag e.resp) ++ t)) a1
  have d2 := dec62_uvarint e.seq.toNat (Lib.uvarint (Lib.zigzag e.resp) ++ t) a2
  have d3 := dec64_uvarint (Lib.zigzag e.resp) t (zig_lt a3)
  have e1 : (entL e ++ t).drop (Lib.uvarint e.proc.toNat).length = Lib.uvarint e.seq.toNat ++ (Lib.uvarint (Lib.zigzag e.resp) ++ t) := by rw [E, List.drop_left]
  have e2 : (entL e ++ t).drop ((Lib.uvarint e.proc.toNat).length + (Lib.uvarint e.seq.toNat).length) = Lib.uvarint (Lib.zigzag e.resp) ++ t := by rw [← List.drop_drop, e1, List.drop_left]
  have e3 : (entL e ++ t).drop ((Lib.uvarint e.proc.toNat).length + (Lib.uvarint e.seq.toNat).length + (Lib.uvarint (Lib.zigzag e.resp)).length) = t := by rw [← List.drop_drop, e2, List.drop_left]
  rw [← E] at d1
  have n1 := uv_ne e.proc.toNat
  have n2 := uv_ne e.seq.toNat
  have n3 := uv_ne (Lib.zigzag e.resp)
  rw [readE]
  simp only [d1, e1, d2, e2, d3, e3]
  rw [if_neg (by rintro (h | h | h); exact n1 h; exact n2 h; exact n3 h), zag_zigzag _ a3.1 a3.2, a4, a5]

theorem readE_enc : ∀ (t : List Ent) (x : List UInt8), (∀ e ∈ t, EntOk e) → readE t.length (entsL t ++ x) = some (t, x)
  | [], x, _ => by simp [readE, entsL]
  | e :: t, x, h => by
    have E : entsL (e :: t) ++ x = entL e ++ (entsL t ++ x) := by
      unfold entsL
      rw [List.flatMap_cons, List.append_assoc]
    rw [E, List.length_cons, readE_step (h e (by simp)), readE_enc t x (fun a ha => h a (by simp [ha]))]
    rfl

theorem entL_pos (e : Ent) : 1 ≤ (entL e).length := by
  unfold entL
  have := uv_ne e.proc.toNat
  rw [List.length_append]
  omega

theorem entsL_len (t : List Ent) : t.length ≤ (entsL t).length := by
  induction t with
  | nil => simp
  | cons e t ih =>
    unfold entsL at ih ⊢
    rw [List.flatMap_cons, List.length_append, List.length_cons]
    have := entL_pos e
    omega

theorem tableL_enc {t : List Ent} (h : ∀ e ∈ t, EntOk e) (hl : t.length ≤ 1000000) : tableL (tabL t) = some t := by
  have d := dec62_uvarint t.length (entsL t) (by omega)
  have hr := readE_enc t [] h
  rw [List.append_nil] at hr
  have hn := uv_ne t.length
  unfold tableL tabL
  rw [d]
  simp only [List.drop_left]
  rw [if_neg, hr]
  have := entsL_len t
  rw [List.length_append]
  omega

theorem tabOk_few {t : List Ent} (h : TabOk t) : t.length ≤ 65 := by
  have hr : ∀ i, i < t.length → (i : Int) ≤ (t.getD i zeroE).proc := by
    intro i
    induction i with
    | zero =>
      intro hi
      exact (h 0 hi).1.1
    | succ i ih =>
      intro hi
      have h1 := ih (by omega)
      have h2 := (h (i + 1) hi).2 (by omega)
      rw [Nat.add_sub_cancel] at h2
      omega
  by_cases h0 : t.length = 0
  · omega
  · have h1 := hr (t.length - 1) (by omega)
    have h2 := (h (t.length - 1) (by omega)).1.2.1
    omega

theorem entL_len {e : Ent} (h : EntOk e) : (entL e).length ≤ 30 := by
  obtain ⟨a1, a2, a3, _⟩ := entOk_small h
  have h1 := Lib.uvarint_length64 (x := e.proc.toNat) (by omega)
  have h2 := Lib.uvarint_length64 (x := e.seq.toNat) (by omega)
  have h3 := Lib.uvarint_length64 (zig_lt a3)
  unfold entL
  rw [List.length_append, List.length_append]
  omega

theorem entsL_le : ∀ (t : List Ent), (∀ e ∈ t, EntOk e) → (entsL t).length ≤ 30 * t.length
  | [], _ => by simp [entsL]
  | e :: t, h => by
    have h1 := entL_len (h e (by simp))
    have h2 := entsL_le t (fun a ha => h a (by simp [ha]))
    unfold entsL at h2 ⊢
    rw [List.flatMap_cons, List.length_append, List.length_cons]
    omega

theorem numsL_le : ∀ (l : List Int), (∀ x ∈ l, I64 x) → (numsL l).length ≤ 10 * l.length
  | [], _ => by simp [numsL]
  | x :: t, h => by
    have h1 := Lib.uvarint_length64 (zig_lt (h x (by simp)))
    have h2 := numsL_le t (fun a ha => h a (by simp [ha]))
    rw [numsL, List.length_append, List.length_cons]
    omega

theorem encS_le {s : St} (h : MayS s) : (encS s).length ≤ 2000 := by
  obtain ⟨h1, h2, h3⟩ := may_small h
  have h4 := sealN_le h
  have u1 := Lib.uvarint_length64 (x := s.kind.toNat) (by omega)
  have u2 := Lib.uvarint_length64 (x := sealN s) (by omega)
  have u3 := Lib.uvarint_length64 (x := s.L.length) (by omega)
  have u4 := numsL_le s.L h3
  unfold encS
  rw [List.length_append, List.length_append, List.length_append]
  omega

theorem wholeN_le {s : Snap} (h : MayN s) : (wholeN s).length ≤ 5000 := by
  obtain ⟨_, h2, h3⟩ := h
  have u1 := encS_le h2
  have u2 := tabOk_few h3
  have u3 := entsL_le s.tab h3.mem
  have u4 := Lib.uvarint_length64 (x := (encS s.st).length) (by omega)
  have u5 := Lib.uvarint_length64 (x := s.tab.length) (by omega)
  unfold wholeN tabL
  rw [List.length_append, List.length_append, List.length_append]
  omega

theorem readN_whole {s : Snap} (h : MayN s) : readN (wholeN s) = (⟨0, s.st, s.tab⟩, 0) := by
  have hl := wholeN_le h
  obtain ⟨_, h2, h3⟩ := h
  have u1 := encS_le h2
  have d := dec62_uvarint (encS s.st).length (encS s.st ++ tabL s.tab) (by omega)
  have hn := uv_ne (encS s.st).length
  have ht := tableL_enc h3.mem (by have := tabOk_few h3; omega)
  have hs := decS_enc h2
  unfold readN wholeN
  rw [d]
  simp only [List.drop_left]
  rw [if_neg (by rw [List.length_append, List.length_append]; omega), ← List.drop_drop, List.drop_left, List.take_left, List.drop_left, hs, if_neg (by show ¬ ((0 : Int) = 3); decide), ht]

theorem maniL_mani {i : Nat} (hi : i < 4611686018427387904) {w : List UInt8} (hw : w.length < 4611686018427387904) : maniL (maniN i w) = (i, w.length, crcMore 0 w, 0) := by
  have hc := crc_lt w
  have d1 := dec62_uvarint 3 (Lib.uvarint i ++ (Lib.uvarint w.length ++ Lib.leBytes 4 (crcMore 0 w))) (by decide)
  have d2 := dec62_uvarint i (Lib.uvarint w.length ++ Lib.leBytes 4 (crcMore 0 w)) hi
  have d3 := dec62_uvarint w.length (Lib.leBytes 4 (crcMore 0 w)) hw
  have n1 := uv_ne 3
  have n2 := uv_ne i
  have n3 := uv_ne w.length
  have e0 : (maniN i w).drop 1 = Lib.uvarint 3 ++ (Lib.uvarint i ++ (Lib.uvarint w.length ++ Lib.leBytes 4 (crcMore 0 w))) := rfl
  have e1 : (maniN i w).drop (1 + (Lib.uvarint 3).length) = Lib.uvarint i ++ (Lib.uvarint w.length ++ Lib.leBytes 4 (crcMore 0 w)) := by rw [← List.drop_drop, e0, List.drop_left]
  have e2 : (maniN i w).drop (1 + (Lib.uvarint 3).length + (Lib.uvarint i).length) = Lib.uvarint w.length ++ Lib.leBytes 4 (crcMore 0 w) := by rw [← List.drop_drop, e1, List.drop_left]
  have e3 : (maniN i w).drop (1 + (Lib.uvarint 3).length + (Lib.uvarint i).length + (Lib.uvarint w.length).length) = Lib.leBytes 4 (crcMore 0 w) := by rw [← List.drop_drop, e2, List.drop_left]
  have h0 : ¬ ((maniN i w).length < 1 ∨ ((maniN i w).getD 0 0).toNat ≠ 115) := by
    unfold maniN
    simp
  unfold maniL
  rw [if_neg h0]
  simp only [e0, d1, e1, d2, e2, d3, e3]
  rw [if_neg (by rintro (h | h | h); exact n1 h; exact n2 h; exact n3 h), if_neg (by simp), if_neg (by rw [Lib.leBytes_length]; simp), Lib.leNat_leBytes 4 _ hc]

theorem maniN_len {i : Nat} (hi : i < 4611686018427387904) {w : List UInt8} (hw : w.length < 4611686018427387904) : (maniN i w).length ≤ 40 := by
  have u1 := Lib.uvarint_length64 (x := 3) (by decide)
  have u2 := Lib.uvarint_length64 (x := i) (by omega)
  have u3 := Lib.uvarint_length64 (x := w.length) (by omega)
  unfold maniN
  rw [List.length_cons, List.length_append, List.length_append, List.length_append, Lib.leBytes_length]
  omega

theorem partsN_len {s : Snap} (h : MayN s) : ∀ x ∈ partsN s, x.length ≤ 1048576 := by
  intro x hx
  have hl := wholeN_le h
  obtain ⟨⟨h0, h1⟩, _⟩ := h
  unfold partsN at hx
  rcases List.mem_cons.1 hx with hx | hx
  · rw [hx]
    have := maniN_len (i := s.idx.toNat) (by omega) (w := wholeN s) (by omega)
    omega
  · have := pieces_mem _ _ x (Nat.le_refl _) hx
    omega

theorem decN_enc {s : Snap} (h : MayN s) : decN (encN s) = (s, 0) := by
  have hl := wholeN_le h
  have hw := wholeF_frames (partsN s) (partsN_len h)
  have hi : s.idx.toNat < 4611686018427387904 := by have := h.1; omega
  have hin : ((s.idx.toNat : Nat) : Int) = s.idx := by have := h.1; omega
  have hm := maniL_mani hi (w := wholeN s) (by omega)
  have hf := pieces_flat _ (wholeN s) (Nat.le_refl _)
  have hc := pieces_cutOk _ (wholeN s) (Nat.le_refl _)
  have hr := readN_whole h
  unfold decN encN
  rw [hw, if_neg (by simp)]
  show partsD (maniN s.idx.toNat (wholeN s) :: pieces (wholeN s)) = _
  unfold partsD
  simp only [hm, hf]
  rw [if_neg (by simp), if_neg (by simp), if_neg (by simpa using hc), if_neg (by simp), hr, if_neg (by simp)]
  simp only [hin]
  rw [if_pos h]

theorem readE_sound : ∀ (n : Nat) (b : List UInt8) (t : List Ent) (x : List UInt8), readE n b = some (t, x) → t.length = n ∧ b = entsL t ++ x
  | 0, b, t, x, h => by
    simp only [readE, Option.some.injEq, Prod.mk.injEq] at h
    obtain ⟨rfl, rfl⟩ := h
    exact ⟨rfl, rfl⟩
  | n + 1, b, t, x, h => by
    rw [readE] at h
    split at h
    · cases h
    · rename_i hne
      have n1 : (dec62 b).2 ≠ 0 := fun e => hne (.inl e)
      have n2 : (dec62 (b.drop (dec62 b).2)).2 ≠ 0 := fun e => hne (.inr (.inl e))
      have n3 : (dec64 (b.drop ((dec62 b).2 + (dec62 (b.drop (dec62 b).2)).2))).2 ≠ 0 := fun e => hne (.inr (.inr e))
      rw [Option.map_eq_some_iff] at h
      obtain ⟨⟨t', x'⟩, hr, he⟩ := h
      simp only [Prod.mk.injEq] at he
      obtain ⟨rfl, rfl⟩ := he
      obtain ⟨i1, i2⟩ := readE_sound n _ t' x' hr
      refine ⟨by rw [List.length_cons, i1], ?_⟩
      have t1 := dec62_take n1
      have t2 := dec62_take n2
      have t3 := dec64_take n3
      have E : entsL (⟨(dec62 b).1, (dec62 (b.drop (dec62 b).2)).1, zag (dec64 (b.drop ((dec62 b).2 + (dec62 (b.drop (dec62 b).2)).2))).1⟩ :: t') ++ x' = Lib.uvarint (dec62 b).1 ++ (Lib.uvarint (dec62 (b.drop (dec62 b).2)).1 ++ (Lib.uvarint (dec64 (b.drop ((dec62 b).2 + (dec62 (b.drop (dec62 b).2)).2))).1 ++ (entsL t' ++ x'))) := by
        unfold entsL
        rw [List.flatMap_cons]
        unfold entL
        simp only [Int.toNat_natCast, zigzag_zag, List.append_assoc]
      have g3 : Lib.uvarint (dec64 (b.drop ((dec62 b).2 + (dec62 (b.drop (dec62 b).2)).2))).1 ++ (entsL t' ++ x') = b.drop ((dec62 b).2 + (dec62 (b.drop (dec62 b).2)).2) := by
        rw [← i2, t3]
        exact take_drop_app _ _ _
      have g2 : Lib.uvarint (dec62 (b.drop (dec62 b).2)).1 ++ b.drop ((dec62 b).2 + (dec62 (b.drop (dec62 b).2)).2) = b.drop (dec62 b).2 := by
        rw [t2]
        exact take_drop_app _ _ _
      rw [E, g3, g2, t1, List.take_append_drop]

theorem tableL_sound {b : List UInt8} {t : List Ent} (h : tableL b = some t) : tabL t = b := by
  unfold tableL at h
  split at h
  · cases h
  · rename_i hne
    have n1 : (dec62 b).2 ≠ 0 := fun e => hne (.inl e)
    cases hr : readE (dec62 b).1 (b.drop (dec62 b).2) with
    | none => rw [hr] at h; cases h
    | some p =>
      obtain ⟨t', x⟩ := p
      rw [hr] at h
      cases x with
      | cons c x => cases h
      | nil =>
        simp only [Option.some.injEq] at h
        subst h
        obtain ⟨i1, i2⟩ := readE_sound _ _ _ _ hr
        rw [List.append_nil] at i2
        unfold tabL
        rw [i1, ← i2, dec62_take n1, List.take_append_drop]

theorem readN_sound {w : List UInt8} (h : (readN w).2 = 0) : wholeN ⟨0, (readN w).1.st, (readN w).1.tab⟩ = w := by
  unfold readN at h ⊢
  split at h
  · exact absurd h (by decide)
  · rename_i hne
    rw [if_neg hne]
    have n1 : (dec62 w).2 ≠ 0 := fun e => hne (.inl e)
    have n2 : (dec62 w).2 + (dec62 w).1 ≤ w.length := by omega
    split at h
    · exact absurd h (by decide)
    · rename_i h3
      rw [if_neg h3]
      cases ht : tableL (w.drop ((dec62 w).2 + (dec62 w).1)) with
      | none => rw [ht] at h; exact absurd h (by show ¬ ((3 : Int) = 0); decide)
      | some t =>
        rw [ht] at h
        have hs := decS_sound h
        have htl := tableL_sound ht
        show wholeN ⟨0, (decS ((w.drop (dec62 w).2).take (dec62 w).1)).1, t⟩ = w
        unfold wholeN
        rw [hs.2, htl, List.length_take, List.length_drop, Nat.min_eq_left (by omega), dec62_take n1, ← List.drop_drop, List.take_append_drop, List.take_append_drop]

theorem maniL_sound {d : List UInt8} (h : (maniL d).2.2.2 = 0) {w : List UInt8} (hl : w.length = (maniL d).2.1) (hc : crcMore 0 w = (maniL d).2.2.1) : d = maniN (maniL d).1 w ∧ (maniL d).1 < 4611686018427387904 := by
  unfold maniL at h hl hc ⊢
  split at h
  · exact absurd h (by decide)
  · rename_i h0
    rw [if_neg h0] at hl hc ⊢
    simp only at h hl hc ⊢
    split at h
    · exact absurd h (by decide)
    · rename_i h1
      rw [if_neg h1] at hl hc ⊢
      split at h
      · exact absurd h (by decide)
      · rename_i h2
        rw [if_neg h2] at hl hc ⊢
        split at h
        · exact absurd h (by decide)
        · rename_i h3
          rw [if_neg h3] at hl hc ⊢
          simp only at hl hc ⊢
          have n1 : (dec62 (d.drop 1)).2 ≠ 0 := fun e => h1 (.inl e)
          have n2 : (dec62 (d.drop (1 + (dec62 (d.drop 1)).2))).2 ≠ 0 := fun e => h1 (.inr (.inl e))
          have n3 : (dec62 (d.drop (1 + (dec62 (d.drop 1)).2 + (dec62 (d.drop (1 + (dec62 (d.drop 1)).2))).2))).2 ≠ 0 := fun e => h1 (.inr (.inr e))
          have hv : (dec62 (d.drop 1)).1 = 3 := Decidable.not_not.1 h2
          have h4 : (d.drop (1 + (dec62 (d.drop 1)).2 + (dec62 (d.drop (1 + (dec62 (d.drop 1)).2))).2 + (dec62 (d.drop (1 + (dec62 (d.drop 1)).2 + (dec62 (d.drop (1 + (dec62 (d.drop 1)).2))).2))).2)).length = 4 := Decidable.not_not.1 h3
          have t1 := dec62_take n1
          have t2 := dec62_take n2
          have t3 := dec62_take n3
          have hlb := leBytes_leNat (d.drop (1 + (dec62 (d.drop 1)).2 + (dec62 (d.drop (1 + (dec62 (d.drop 1)).2))).2 + (dec62 (d.drop (1 + (dec62 (d.drop 1)).2 + (dec62 (d.drop (1 + (dec62 (d.drop 1)).2))).2))).2))
          rw [h4] at hlb
          have hfst : (dec62 (d.drop (1 + (dec62 (d.drop 1)).2))).1 < 4611686018427387904 := by
            rcases dec62_cases (d.drop (1 + (dec62 (d.drop 1)).2)) with e | e
            · rw [e]; decide
            · exact e.1
          refine ⟨?_, hfst⟩
          unfold maniN
          have g3 : Lib.uvarint w.length ++ Lib.leBytes 4 (crcMore 0 w) = d.drop (1 + (dec62 (d.drop 1)).2 + (dec62 (d.drop (1 + (dec62 (d.drop 1)).2))).2) := by
            rw [hc, hlb, hl, t3]
            exact take_drop_app _ _ _
          have g2 : Lib.uvarint (dec62 (d.drop (1 + (dec62 (d.drop 1)).2))).1 ++ d.drop (1 + (dec62 (d.drop 1)).2 + (dec62 (d.drop (1 + (dec62 (d.drop 1)).2))).2) = d.drop (1 + (dec62 (d.drop 1)).2) := by
            rw [t2]
            exact take_drop_app _ _ _
          have g1 : Lib.uvarint 3 ++ d.drop (1 + (dec62 (d.drop 1)).2) = d.drop 1 := by
            rw [← hv, t1]
            exact take_drop_app _ _ _
          rw [g3, g2, g1]
          have h00 : (d.getD 0 0).toNat = 115 := Decidable.not_not.1 (fun e => h0 (.inr e))
          have h01 : ¬ d.length < 1 := fun e => h0 (.inl e)
          cases d with
          | nil => exact absurd (by decide) h01
          | cons c r =>
            have : c = 115 := by
              apply UInt8.toNat_inj.1
              simpa using h00
            rw [this]
            rfl

theorem decN_sound {b : List UInt8} (h : (decN b).2 = 0) : MayN (decN b).1 ∧ encN (decN b).1 = b := by
  unfold decN at h ⊢
  by_cases hw : (wholeF b).2.2 = 0
  case neg =>
    rw [if_pos hw] at h
    exact absurd h (by show ((wholeF b).2.2 : Int) ≠ 0; omega)
  rw [if_neg (Decidable.not_not.2 hw)] at h ⊢
  obtain ⟨hb, hlen⟩ := wholeF_all _ b (Nat.le_refl _) hw
  generalize (wholeF b).1 = L at *
  unfold partsD at h ⊢
  cases L with
  | nil => exact absurd h (by decide)
  | cons d P =>
    simp only at h ⊢
    split at h
    · rename_i e; exact absurd h e
    rename_i h1
    rw [if_neg h1]
    split at h
    · exact absurd h (by decide)
    rename_i h2
    rw [if_neg h2]
    split at h
    · exact absurd h (by decide)
    rename_i h3
    rw [if_neg h3]
    split at h
    · exact absurd h (by decide)
    rename_i h4
    rw [if_neg h4]
    split at h
    · rename_i e; exact absurd h e
    rename_i h5
    rw [if_neg h5]
    split at h
    · rename_i h6
      rw [if_pos h6]
      have hm := maniL_sound (Decidable.not_not.1 h1) (Decidable.not_not.1 h2) (Decidable.not_not.1 h4)
      have hr := readN_sound (Decidable.not_not.1 h5)
      have hp := cutOk_pieces P (Decidable.not_not.1 h3)
      refine ⟨h6, ?_⟩
      have hwn : wholeN ⟨((maniL d).1 : Nat), (readN P.flatten).1.st, (readN P.flatten).1.tab⟩ = P.flatten := hr
      unfold encN partsN
      rw [hwn, hp]
      show framesOf (maniN (((maniL d).1 : Nat) : Int).toNat P.flatten :: P) = b
      rw [Int.toNat_natCast, ← hm.1]
      exact hb
    · exact absurd h (by decide)

/-- Of two snapshots neither's bytes begin the other's. -/
theorem encN_inj {s s' : Snap} (h : MayN s) (h' : MayN s') {t : List UInt8} (he : encN s' = encN s ++ t) : s' = s ∧ t = [] := by
  have hl := wholeN_le h
  have hl' := wholeN_le h'
  have hi : s.idx.toNat < 4611686018427387904 := by have := h.1; omega
  have hi' : s'.idx.toNat < 4611686018427387904 := by have := h'.1; omega
  have hm := maniL_mani hi (w := wholeN s) (by omega)
  have hm' := maniL_mani hi' (w := wholeN s') (by omega)
  have e1 : encN s = frameOf (maniN s.idx.toNat (wholeN s)) ++ framesOf (pieces (wholeN s)) := framesOf_cons _ _
  have e2 : encN s' = frameOf (maniN s'.idx.toNat (wholeN s')) ++ framesOf (pieces (wholeN s')) := framesOf_cons _ _
  have f1 := decF_frame (maniN s.idx.toNat (wholeN s)) (framesOf (pieces (wholeN s)) ++ t) (by have := maniN_len hi (w := wholeN s) (by omega); omega)
  have f2 := decF_frame (maniN s'.idx.toNat (wholeN s')) (framesOf (pieces (wholeN s'))) (by have := maniN_len hi' (w := wholeN s') (by omega); omega)
  rw [← List.append_assoc, ← e1, ← he, e2, f2] at f1
  simp only [Prod.mk.injEq] at f1
  have em := f1.1
  have el := f1.2.1
  rw [em, hm] at hm'
  simp only [Prod.mk.injEq] at hm'
  have hwl := hm'.2.1
  have hp := pieces_len _ (wholeN s) (wholeN s') (Nat.le_refl _) hwl
  have hlen := congrArg List.length he
  rw [e1, e2] at hlen
  simp only [List.length_append] at hlen
  have ht : t = [] := List.eq_nil_of_length_eq_zero (by omega)
  subst ht
  rw [List.append_nil] at he
  have d1 := decN_enc h
  rw [← he, decN_enc h'] at d1
  simp only [Prod.mk.injEq, and_true] at d1
  exact ⟨d1, rfl⟩

theorem decN_cut {s : Snap} (h : MayN s) {c : Nat} (hc : c < (encN s).length) : (decN ((encN s).take c)).2 ≠ 0 := by
  intro e
  obtain ⟨h1, h2⟩ := decN_sound e
  have h3 : encN s = encN (decN ((encN s).take c)).1 ++ (encN s).drop c := by rw [h2, List.take_append_drop]
  have h4 := congrArg List.length (encN_inj h1 h h3).2
  rw [List.length_drop, List.length_nil] at h4
  omega

theorem decN_more {s : Snap} (h : MayN s) {t : List UInt8} (ht : t ≠ []) : (decN (encN s ++ t)).2 ≠ 0 := by
  intro e
  obtain ⟨h1, h2⟩ := decN_sound e
  exact ht (encN_inj h h1 h2).2

end Go.Proofs.Ytgpdbboieokldaa

/- Notes in a table, over plain lists, and what follows. -/
namespace Go.Proofs.Ytgpdbboieokldaa

/-- The entries but those of e's process, and e, ahead of the first one that has a greater process. -/
def noteG (e : Ent) : Bool → List Ent → List Ent
  | d, [] => if d = true then [] else [e]
  | d, x :: t => (if d = false ∧ e.proc < x.proc then [e] else []) ++ ((if x.proc = e.proc then [] else [x]) ++ noteG e (d || decide (e.proc < x.proc)) t)

def noteL (t : List Ent) (e : Ent) : List Ent := noteG e false t

theorem noteG_done (e : Ent) : ∀ t : List Ent, noteG e true t = t.filter (fun x => decide (x.proc ≠ e.proc))
  | [] => rfl
  | x :: t => by
    rw [noteG, if_neg (by simp), Bool.true_or, noteG_done e t, List.filter_cons]
    by_cases h : x.proc = e.proc <;> simp [h]

theorem noteG_mem (e : Ent) : ∀ (t : List Ent) (d : Bool) (x : Ent), x ∈ noteG e d t ↔ (d = false ∧ x = e) ∨ (x ∈ t ∧ x.proc ≠ e.proc)
  | [], d, x => by cases d <;> simp [noteG]
  | y :: t, d, x => by
    rw [noteG, List.mem_append, List.mem_append, noteG_mem e t, List.mem_cons]
    by_cases h1 : d = false ∧ e.proc < y.proc
    · have hy : y.proc ≠ e.proc := by omega
      rw [if_pos h1, if_neg hy, h1.1]
      have h2 : decide (e.proc < y.proc) = true := decide_eq_true h1.2
      rw [h2]
      simp only [List.mem_singleton, Bool.or_true, Bool.true_eq_false, false_and, false_or, true_and]
      constructor
      · rintro (h | h | ⟨h, h'⟩)
        · exact .inl h
        · exact .inr ⟨.inl h, by rw [h]; exact hy⟩
        · exact .inr ⟨.inr h, h'⟩
      · rintro (h | ⟨h | h, h'⟩)
        · exact .inl h
        · exact .inr (.inl h)
        · exact .inr (.inr ⟨h, h'⟩)
    · rw [if_neg h1]
      have hd : (d || decide (e.proc < y.proc)) = false ↔ d = false := by
        constructor
        · intro h
          cases d
          · rfl
          · exact h
        · intro h
          rw [h, Bool.false_or]
          exact decide_eq_false (fun h2 => h1 ⟨h, h2⟩)
      rw [hd]
      by_cases hy : y.proc = e.proc
      · rw [if_pos hy]
        simp only [List.not_mem_nil, false_or]
        constructor
        · rintro (h | ⟨h, h'⟩)
          · exact .inl h
          · exact .inr ⟨.inr h, h'⟩
        · rintro (h | ⟨h | h, h'⟩)
          · exact .inl h
          · exact absurd (by rw [h]; exact hy) h'
          · exact .inr ⟨h, h'⟩
      · rw [if_neg hy]
        simp only [List.not_mem_nil, false_or, List.mem_singleton]
        constructor
        · rintro (h | h | ⟨h, h'⟩)
          · exact .inr ⟨.inl h, by rw [h]; exact hy⟩
          · exact .inl h
          · exact .inr ⟨.inr h, h'⟩
        · rintro (h | ⟨h | h, h'⟩)
          · exact .inr (.inl h)
          · exact .inl h
          · exact .inr (.inr ⟨h, h'⟩)

theorem noteL_mem (t : List Ent) (e x : Ent) : x ∈ noteL t e ↔ x = e ∨ (x ∈ t ∧ x.proc ≠ e.proc) := by
  unfold noteL
  rw [noteG_mem]
  simp

theorem noteG_len (e : Ent) : ∀ (t : List Ent) (d : Bool), (noteG e d t).length ≤ t.length + (if d = true then 0 else 1)
  | [], d => by cases d <;> simp [noteG]
  | y :: t, d => by
    have ih := noteG_len e t (d || decide (e.proc < y.proc))
    rw [noteG, List.length_append, List.length_append, List.length_cons]
    by_cases h1 : d = false ∧ e.proc < y.proc
    · have h2 : decide (e.proc < y.proc) = true := decide_eq_true h1.2
      rw [h1.1, h2] at ih ⊢
      rw [if_pos ⟨rfl, h1.2⟩]
      simp only [Bool.or_true, if_true] at ih
      split <;> simp <;> omega
    · rw [if_neg h1]
      have hd : (if (d || decide (e.proc < y.proc)) = true then (0 : Nat) else 1) ≤ (if d = true then 0 else 1) := by
        cases d
        · have : decide (e.proc < y.proc) = false := decide_eq_false (fun h => h1 ⟨rfl, h⟩)
          rw [this]
          exact Nat.le_refl _
        · simp
      split <;> simp <;> omega

theorem noteL_len (t : List Ent) (e : Ent) : (noteL t e).length ≤ t.length + 1 := noteG_len e t false

theorem noteG_one (e : Ent) : ∀ (t : List Ent) (d : Bool), (noteG e d t).filter (fun x => decide (x.proc = e.proc)) = if d = true then [] else [e]
  | [], d => by cases d <;> simp [noteG]
  | y :: t, d => by
    rw [noteG, List.filter_append, List.filter_append, noteG_one e t]
    have e2 : (if y.proc = e.proc then [] else [y]).filter (fun x => decide (x.proc = e.proc)) = [] := by
      split
      · rfl
      · rename_i h
        simp [h]
    rw [e2, List.nil_append]
    by_cases h1 : d = false ∧ e.proc < y.proc
    · have h2 : decide (e.proc < y.proc) = true := decide_eq_true h1.2
      rw [if_pos h1, h1.1, h2]
      simp
    · rw [if_neg h1]
      cases d
      · have : decide (e.proc < y.proc) = false := decide_eq_false (fun h => h1 ⟨rfl, h⟩)
        rw [this]
        rfl
      · simp

theorem noteL_one (t : List Ent) (e : Ent) : (noteL t e).filter (fun x => decide (x.proc = e.proc)) = [e] := noteG_one e t false

/-- The processes rise. -/
def Rises (t : List Ent) : Prop := t.Pairwise (fun a b => a.proc < b.proc)

theorem noteL_rises {e : Ent} : ∀ {t : List Ent}, Rises t → Rises (noteL t e)
  | [], _ => by simp [noteL, noteG, Rises]
  | y :: t, h => by
    unfold Rises at h
    rw [List.pairwise_cons] at h
    obtain ⟨h1, h2⟩ := h
    unfold noteL Rises
    rw [noteG, Bool.false_or]
    by_cases hlt : e.proc < y.proc
    · have hy : y.proc ≠ e.proc := by omega
      rw [if_pos ⟨rfl, hlt⟩, if_neg hy, decide_eq_true hlt, noteG_done]
      show List.Pairwise _ (e :: y :: _)
      rw [List.pairwise_cons, List.pairwise_cons]
      refine ⟨fun a ha => ?_, fun a ha => h1 a ((List.mem_filter.1 ha).1), h2.filter _⟩
      rcases List.mem_cons.1 ha with ha | ha
      · rw [ha]; exact hlt
      · have := h1 a ((List.mem_filter.1 ha).1)
        omega
    · rw [if_neg (fun h => hlt h.2), decide_eq_false hlt, List.nil_append]
      have ih : Rises (noteL t e) := noteL_rises h2
      by_cases hy : y.proc = e.proc
      · rw [if_pos hy, List.nil_append]
        exact ih
      · rw [if_neg hy]
        show List.Pairwise _ (y :: noteL t e)
        rw [List.pairwise_cons]
        refine ⟨fun a ha => ?_, ih⟩
        rcases (noteL_mem t e a).1 ha with ha | ⟨ha, _⟩
        · rw [ha]; omega
        · exact h1 a ha

/-- Two lists whose processes rise, of the same entries, are the same. -/
theorem rises_same : ∀ {a b : List Ent}, Rises a → Rises b → (∀ x, x ∈ a ↔ x ∈ b) → a = b
  | [], [], _, _, _ => rfl
  | [], y :: b, _, _, h => by
    have := (h y).2 (by simp)
    simp at this
  | x :: a, [], _, _, h => by
    have := (h x).1 (by simp)
    simp at this
  | x :: a, y :: b, ha, hb, h => by
    unfold Rises at ha hb
    rw [List.pairwise_cons] at ha hb
    have hxy : x = y := by
      rcases List.mem_cons.1 ((h x).1 (by simp)) with e | hx
      · exact e
      · rcases List.mem_cons.1 ((h y).2 (by simp)) with e | hy
        · exact e.symm
        · have h1 := hb.1 x hx
          have h2 := ha.1 y hy
          omega
    subst hxy
    rw [rises_same (a := a) (b := b) ha.2 hb.2 (fun z => ?_)]
    constructor
    · intro hz
      rcases List.mem_cons.1 ((h z).1 (by simp [hz])) with e | hz'
      · have := ha.1 z hz
        rw [e] at this
        omega
      · exact hz'
    · intro hz
      rcases List.mem_cons.1 ((h z).2 (by simp [hz])) with e | hz'
      · have := hb.1 z hz
        rw [e] at this
        omega
      · exact hz'

theorem TabTo.lt {t : List Ent} {k : Nat} (h : TabTo t k) : ∀ j i, i < j → j < k → (t.getD i zeroE).proc < (t.getD j zeroE).proc
  | 0, i, hi, _ => absurd hi (Nat.not_lt_zero _)
  | j + 1, i, hi, hj => by
    have h1 := (h (j + 1) hj).2 (by omega)
    rw [Nat.add_sub_cancel] at h1
    by_cases e : i = j
    · rw [e]; exact h1
    · have h2 := h.lt j i (by omega) (by omega)
      omega

theorem TabOk.rises {t : List Ent} (h : TabOk t) : Rises t := by
  unfold Rises
  rw [List.pairwise_iff_getElem]
  intro i j hi hj hij
  have := h.lt j i hij hj
  simpa [List.getD, hi, hj] using this

theorem noteL_swap {t : List Ent} (h : Rises t) {r q : Ent} (hrq : r.proc ≠ q.proc) : noteL (noteL t r) q = noteL (noteL t q) r := by
  refine rises_same (noteL_rises (noteL_rises h)) (noteL_rises (noteL_rises h)) (fun x => ?_)
  rw [noteL_mem, noteL_mem, noteL_mem, noteL_mem]
  constructor
  · rintro (h | ⟨h | ⟨h1, h2⟩, h3⟩)
    · exact .inr ⟨.inl h, by rw [h]; exact fun e => hrq e.symm⟩
    · exact .inl h
    · exact .inr ⟨.inr ⟨h1, h3⟩, h2⟩
  · rintro (h | ⟨h | ⟨h1, h2⟩, h3⟩)
    · exact .inr ⟨.inl h, by rw [h]; exact hrq⟩
    · exact .inl h
    · exact .inr ⟨.inr ⟨h1, h3⟩, h2⟩

end Go.Proofs.Ytgpdbboieokldaa

