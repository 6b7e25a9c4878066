import Derived.Test.YtedfacbngefhnaaPack1
/- Codec: operations and states as bytes, over plain lists, and what follows. -/
namespace Go.Proofs.Ytedfacbngefhnaa

theorem zig_lt {n : Int} (h : I64 n) : Lib.zigzag n < 18446744073709551616 := by
  obtain ⟨h0, h1⟩ := h
  unfold Lib.zigzag
  split <;> omega

theorem zag_i64 {u : Nat} (h : u < 18446744073709551616) : I64 (zag u) := zag_range u h

/-- A number that is cut off is none. -/
theorem dec64_cut (u c : Nat) (hu : u < 18446744073709551616) (hc : c < (Lib.uvarint u).length) : dec64 ((Lib.uvarint u).take c) = (0, 0) := by
  have hlen : (Lib.uvarint u).length ≤ 10 := Lib.uvarint_length 9 u (Nat.lt_of_lt_of_le hu (by decide))
  have h : dec 10 ((Lib.uvarint u).take c) = none := by
    apply dec_miss
    intro j hj hjl
    have hjc : j < c := by simp at hjl; omega
    have e : ((Lib.uvarint u).take c).getD j 0 = (Lib.uvarint u).getD j 0 := by
      simp [List.getD, hjc]
    rw [e]
    exact uvarint_open 10 u j hlen (by omega)
  unfold dec64
  rw [h]

theorem dec62_cut (u c : Nat) (hu : u < 4611686018427387904) (hc : c < (Lib.uvarint u).length) : dec62 ((Lib.uvarint u).take c) = (0, 0) := by
  unfold dec62
  rw [dec64_cut u c (by omega) hc]
  rfl

theorem dec62_le (l : List UInt8) : (dec62 l).2 ≤ l.length := by
  rcases dec62_cases l with h | h
  · rw [h]; exact Nat.zero_le _
  · exact h.2.2.1

/-- An operation's bytes. -/
def putOpL (o : Opn) : List UInt8 := Lib.uvarint o.code.toNat ++ (Lib.uvarint (Lib.zigzag o.a) ++ Lib.uvarint (Lib.zigzag o.b))

/-- The operation that bytes begin with, and how many they are. -/
def getOpL (l : List UInt8) : Opn × Nat :=
  if (dec62 l).2 = 0 ∨ (dec64 (l.drop (dec62 l).2)).2 = 0 ∨ (dec64 (l.drop ((dec62 l).2 + (dec64 (l.drop (dec62 l).2)).2))).2 = 0 ∨ ¬ FitsO ⟨((dec62 l).1 : Int), zag (dec64 (l.drop (dec62 l).2)).1, zag (dec64 (l.drop ((dec62 l).2 + (dec64 (l.drop (dec62 l).2)).2))).1⟩ then (⟨0, 0, 0⟩, 0)
  else (⟨((dec62 l).1 : Int), zag (dec64 (l.drop (dec62 l).2)).1, zag (dec64 (l.drop ((dec62 l).2 + (dec64 (l.drop (dec62 l).2)).2))).1⟩, (dec62 l).2 + (dec64 (l.drop (dec62 l).2)).2 + (dec64 (l.drop ((dec62 l).2 + (dec64 (l.drop (dec62 l).2)).2))).2)

theorem fits_i64 {o : Opn} (h : FitsO o) : I64 o.a ∧ I64 o.b := by
  obtain ⟨_, _, h1, h2, h3, h4⟩ := h
  exact ⟨i64_small (by omega) (by omega), i64_small (by omega) (by omega)⟩

theorem uv_ne (u : Nat) : (Lib.uvarint u).length ≠ 0 := by have := Lib.uvarint_pos u; omega

theorem getOp_put (o : Opn) (h : FitsO o) (t : List UInt8) : getOpL (putOpL o ++ t) = (o, (putOpL o).length) := by
  obtain ⟨ia, ib⟩ := fits_i64 h
  have hc0 := h.1
  have hc1 := h.2.1
  have d1 : dec62 (putOpL o ++ t) = (o.code.toNat, (Lib.uvarint o.code.toNat).length) := by
    unfold putOpL
    rw [List.append_assoc]
    exact dec62_uvarint _ _ (by omega)
  have e1 : (putOpL o ++ t).drop (Lib.uvarint o.code.toNat).length = Lib.uvarint (Lib.zigzag o.a) ++ (Lib.uvarint (Lib.zigzag o.b) ++ t) := by
    unfold putOpL
    rw [List.append_assoc, List.drop_left, List.append_assoc]
  have d2 := dec64_uvarint (Lib.zigzag o.a) (Lib.uvarint (Lib.zigzag o.b) ++ t) (zig_lt ia)
  have e2 : (putOpL o ++ t).drop ((Lib.uvarint o.code.toNat).length + (Lib.uvarint (Lib.zigzag o.a)).length) = Lib.uvarint (Lib.zigzag o.b) ++ t := by
    rw [← List.drop_drop, e1, List.drop_left]
  have d3 := dec64_uvarint (Lib.zigzag o.b) t (zig_lt ib)
  have eo : (⟨((o.code.toNat : Nat) : Int), zag (Lib.zigzag o.a), zag (Lib.zigzag o.b)⟩ : Opn) = o := by
    rw [zag_zigzag _ ia.1 ia.2, zag_zigzag _ ib.1 ib.2]
    obtain ⟨c, a, b⟩ := o
    simp only [Opn.mk.injEq, and_true]
    simp only at hc0
    omega
  unfold getOpL
  simp only [d1, e1, d2, e2, d3]
  rw [if_neg, eo]
  · simp only [Prod.mk.injEq, true_and]
    unfold putOpL
    simp only [List.length_append]
    omega
  · rw [eo]
    rintro (h1 | h1 | h1 | h1)
    · exact uv_ne _ h1
    · exact uv_ne _ h1
    · exact uv_ne _ h1
    · exact h1 h

theorem getOp_le (l : List UInt8) : (getOpL l).2 ≤ l.length := by
  unfold getOpL
  split
  · exact Nat.zero_le _
  · have h1 := dec62_le l
    have h2 := dec64_le (l.drop (dec62 l).2)
    have h3 := dec64_le (l.drop ((dec62 l).2 + (dec64 (l.drop (dec62 l).2)).2))
    simp only [List.length_drop] at h2 h3
    show (dec62 l).2 + _ + _ ≤ _
    omega

theorem getOp_none {l : List UInt8} (h : (getOpL l).2 = 0) : (getOpL l).1 = ⟨0, 0, 0⟩ := by
  unfold getOpL at h ⊢
  split
  · rfl
  · rename_i hn
    rw [if_neg hn] at h
    simp only at h
    omega

theorem take_split (l : List UInt8) (i j : Nat) : l.take (i + j) = l.take i ++ (l.drop i).take j := by
  rw [List.take_add]

theorem getOp_sound {l : List UInt8} (h : (getOpL l).2 ≠ 0) : FitsO (getOpL l).1 ∧ putOpL (getOpL l).1 = l.take (getOpL l).2 := by
  unfold getOpL at h ⊢
  by_cases hn : (dec62 l).2 = 0 ∨ (dec64 (l.drop (dec62 l).2)).2 = 0 ∨ (dec64 (l.drop ((dec62 l).2 + (dec64 (l.drop (dec62 l).2)).2))).2 = 0 ∨ ¬ FitsO ⟨((dec62 l).1 : Int), zag (dec64 (l.drop (dec62 l).2)).1, zag (dec64 (l.drop ((dec62 l).2 + (dec64 (l.drop (dec62 l).2)).2))).1⟩
  · rw [if_pos hn] at h
    exact absurd rfl h
  · rw [if_neg hn]
    have h1 : (dec62 l).2 ≠ 0 := fun e => hn (.inl e)
    have h2 : (dec64 (l.drop (dec62 l).2)).2 ≠ 0 := fun e => hn (.inr (.inl e))
    have h3 : (dec64 (l.drop ((dec62 l).2 + (dec64 (l.drop (dec62 l).2)).2))).2 ≠ 0 := fun e => hn (.inr (.inr (.inl e)))
    have h4 : FitsO ⟨((dec62 l).1 : Int), zag (dec64 (l.drop (dec62 l).2)).1, zag (dec64 (l.drop ((dec62 l).2 + (dec64 (l.drop (dec62 l).2)).2))).1⟩ := Classical.byContradiction fun e => hn (.inr (.inr (.inr e)))
    refine ⟨h4, ?_⟩
    have c1 : l.take (dec62 l).2 = Lib.uvarint (dec62 l).1 := by
      rcases dec62_cases l with e | e
      · rw [e] at h1; exact absurd rfl h1
      · exact e.2.2.2
    have c2 : (l.drop (dec62 l).2).take (dec64 (l.drop (dec62 l).2)).2 = Lib.uvarint (dec64 (l.drop (dec62 l).2)).1 := by
      rcases dec64_cases (l.drop (dec62 l).2) with e | e
      · rw [e] at h2; exact absurd rfl h2
      · exact e.2.2.2
    have c3 : (l.drop ((dec62 l).2 + (dec64 (l.drop (dec62 l).2)).2)).take (dec64 (l.drop ((dec62 l).2 + (dec64 (l.drop (dec62 l).2)).2))).2 = Lib.uvarint (dec64 (l.drop ((dec62 l).2 + (dec64 (l.drop (dec62 l).2)).2))).1 := by
      rcases dec64_cases (l.drop ((dec62 l).2 + (dec64 (l.drop (dec62 l).2)).2)) with e | e
      · rw [e] at h3; exact absurd rfl h3
      · exact e.2.2.2
    unfold putOpL
    simp only [zigzag_zag]
    rw [take_split, take_split, c1, c2, c3, List.append_assoc]
    rfl

/-- Two operations of which one's bytes begin the other's are one. -/
theorem putOp_apart {o p : Opn} (ho : FitsO o) (hp : FitsO p) {t : List UInt8} (h : putOpL p = putOpL o ++ t) : o = p := by
  have h1 := getOp_put o ho t
  have h2 := getOp_put p hp []
  rw [List.append_nil, h] at h2
  rw [h1] at h2
  injection h2

/-- Numbers as bytes. -/
def numsL : List Int → List UInt8
  | [] => []
  | x :: r => Lib.uvarint (Lib.zigzag x) ++ numsL r

/-- What a state is sealed for, as a number. -/
def sealN (s : St) : Nat := if s.shut = true then s.eng.toNat + 1 else 0

/-- A state's bytes. -/
def encS (s : St) : List UInt8 := Lib.uvarint s.kind.toNat ++ (Lib.uvarint (sealN s) ++ (Lib.uvarint s.L.length ++ numsL s.L))

/-- So many numbers that bytes begin with, and how many bytes they are. -/
def readL : Nat → List UInt8 → Option (List Int × Nat)
  | 0, _ => some ([], 0)
  | n + 1, l => if (dec64 l).2 = 0 then none else (readL n (l.drop (dec64 l).2)).map fun x => (zag (dec64 l).1 :: x.1, (dec64 l).2 + x.2)

/-- The state of three numbers and a list. -/
def mkS (kind sl : Nat) (xs : List Int) : St := ⟨kind, xs, decide (0 < sl), if 0 < sl then (sl : Int) - 1 else 0⟩

def zeroS : St := ⟨0, [], false, 0⟩

/-- What comes of three numbers and the bytes behind them. -/
def restS (kind sl many : Nat) (l : List UInt8) : St × Int :=
  match readL many l with
  | none => (zeroS, 3)
  | some (xs, u) => if u ≠ l.length then (zeroS, 3) else if MayS (mkS kind sl xs) then (mkS kind sl xs, 0) else (zeroS, 1)

/-- The state that bytes are, and the error. -/
def decS (l : List UInt8) : St × Int :=
  if (dec62 l).2 = 0 ∨ (dec62 (l.drop (dec62 l).2)).2 = 0 ∨ (dec62 (l.drop ((dec62 l).2 + (dec62 (l.drop (dec62 l).2)).2))).2 = 0 ∨ 3 < (dec62 (l.drop (dec62 l).2)).1 ∨ 128 < (dec62 (l.drop ((dec62 l).2 + (dec62 (l.drop (dec62 l).2)).2))).1 then (zeroS, 3)
  else restS (dec62 l).1 (dec62 (l.drop (dec62 l).2)).1 (dec62 (l.drop ((dec62 l).2 + (dec62 (l.drop (dec62 l).2)).2))).1 (l.drop ((dec62 l).2 + (dec62 (l.drop (dec62 l).2)).2 + (dec62 (l.drop ((dec62 l).2 + (dec62 (l.drop (dec62 l).2)).2))).2))

theorem readL_nums : ∀ (L : List Int) (t : List UInt8), (∀ x ∈ L, I64 x) → readL L.length (numsL L ++ t) = some (L, (numsL L).length)
  | [], t, _ => rfl
  | x :: r, t, h => by
    have hx := h x (by simp)
    have ih := readL_nums r t (fun y hy => h y (by simp [hy]))
    have d := dec64_uvarint (Lib.zigzag x) (numsL r ++ t) (zig_lt hx)
    rw [List.length_cons, numsL, List.append_assoc, readL, d]
    simp only
    rw [if_neg (uv_ne _), List.drop_left, ih, zag_zigzag x hx.1 hx.2]
    simp

theorem readL_sound : ∀ (n : Nat) (l : List UInt8) (xs : List Int) (u : Nat), readL n l = some (xs, u) → xs.length = n ∧ u ≤ l.length ∧ numsL xs = l.take u ∧ ∀ x ∈ xs, I64 x
  | 0, l, xs, u, h => by
    simp only [readL, Option.some.injEq, Prod.mk.injEq] at h
    obtain ⟨rfl, rfl⟩ := h
    exact ⟨rfl, Nat.zero_le _, by simp [numsL], fun x hx => by simp at hx⟩
  | n + 1, l, xs, u, h => by
    rw [readL] at h
    by_cases h0 : (dec64 l).2 = 0
    · rw [if_pos h0] at h; cases h
    · rw [if_neg h0] at h
      obtain ⟨⟨ys, k⟩, hy, he⟩ := Option.map_eq_some_iff.1 h
      simp only [Prod.mk.injEq] at he
      obtain ⟨rfl, rfl⟩ := he
      obtain ⟨i1, i2, i3, i4⟩ := readL_sound n _ ys k hy
      rcases dec64_cases l with e | ⟨e1, e2, e3, e4⟩
      · rw [e] at h0; exact absurd rfl h0
      · simp only [List.length_drop] at i2
        refine ⟨by simp [i1], by omega, ?_, ?_⟩
        · rw [numsL, zigzag_zag, i3, take_split, e4]
        · intro x hx
          rcases List.mem_cons.1 hx with rfl | hx
          · exact zag_i64 e1
          · exact i4 x hx

theorem readL_cut : ∀ (L : List Int) (c : Nat), (∀ x ∈ L, I64 x) → c < (numsL L).length → readL L.length ((numsL L).take c) = none
  | [], c, _, hc => by simp [numsL] at hc
  | x :: r, c, h, hc => by
    have hx := h x (by simp)
    rw [List.length_cons, readL]
    by_cases hl : c < (Lib.uvarint (Lib.zigzag x)).length
    · have e : (numsL (x :: r)).take c = (Lib.uvarint (Lib.zigzag x)).take c := by
        rw [numsL, List.take_append_of_le_length (by omega)]
      rw [e, dec64_cut _ _ (zig_lt hx) hl, if_pos rfl]
    · have e : (numsL (x :: r)).take c = Lib.uvarint (Lib.zigzag x) ++ (numsL r).take (c - (Lib.uvarint (Lib.zigzag x)).length) := by
        rw [numsL, List.take_append, List.take_of_length_le (by omega)]
      have hc' : c - (Lib.uvarint (Lib.zigzag x)).length < (numsL r).length := by
        rw [numsL, List.length_append] at hc
        omega
      rw [e, dec64_uvarint _ _ (zig_lt hx)]
      simp only
      rw [if_neg (uv_ne _), List.drop_left, readL_cut r _ (fun y hy => h y (by simp [hy])) hc']
      rfl

theorem sealN_le {s : St} (h : MayS s) : sealN s ≤ 3 := by
  have := h.1
  have := h.2.1
  unfold sealN
  split <;> omega

theorem mkS_enc {s : St} (h : MayS s) : mkS s.kind.toNat (sealN s) s.L = s := by
  obtain ⟨k, l, sh, g⟩ := s
  have h1 : 0 ≤ g := h.1
  have h4 : 0 ≤ k := h.2.2.2.1
  have h3 : sh = false → g = 0 := h.2.2.1
  unfold mkS sealN
  cases sh with
  | true => simp; omega
  | false =>
    have := h3 rfl
    simp
    omega

theorem may_small {s : St} (h : MayS s) : s.kind.toNat < 4611686018427387904 ∧ s.L.length ≤ 128 ∧ ∀ x ∈ s.L, I64 x := by
  have h0 := h.2.2.2.1
  have h6 := h.2.2.2.2.1
  have hn := h.2.2.2.2.2
  by_cases h4 : s.kind = 4
  · rw [h4, numsOk_4] at hn
    refine ⟨by omega, hn.1, fun x hx => ?_⟩
    have hb : ∀ (l : List Int) (lo : Int), -1 ≤ lo → Pairs (-1099511627776) lo l → ∀ x ∈ l, I64 x := by
      intro l
      match l with
      | [] => intro _ _ _ x hx; simp at hx
      | [_] => intro _ _ h; simp [Pairs] at h
      | a :: b :: r => exact pairsW a b r
    exact hb s.L (-1) (by decide) hn.2 x hx
  · by_cases h5 : s.kind = 5
    · rw [h5, numsOk_5] at hn
      exact ⟨by omega, hn.1, fun x hx => by have := pairs_mem (by decide) hn.2 x hx; exact i64_small (by omega) (by omega)⟩
    · have hl := (numsOk_list h4 h5).1 hn
      exact ⟨by omega, by omega, fun x hx => by have := (inBounds_iff _).1 hl.2.2 x hx; exact i64_small (by omega) (by omega)⟩
where
  pairsW (a b : Int) (r : List Int) : ∀ (lo : Int), -1 ≤ lo → Pairs (-1099511627776) lo (a :: b :: r) → ∀ x ∈ a :: b :: r, I64 x := by
    intro lo hlo h x hx
    unfold Pairs at h
    simp at hx
    rcases hx with rfl | rfl | hx
    · exact i64_small (by omega) (by omega)
    · exact i64_small (by omega) (by omega)
    · match r, hx, h with
      | a2 :: b2 :: r2, hx, h => exact pairsW a2 b2 r2 a (by omega) h.2.2.2.2 x hx
      | [c], _, h => simp [Pairs] at h

theorem decS_three (k s m : Nat) (t : List UInt8) (hk : k < 4611686018427387904) (hs : s ≤ 3) (hm : m ≤ 128) : decS (Lib.uvarint k ++ (Lib.uvarint s ++ (Lib.uvarint m ++ t))) = restS k s m t := by
  have d1 := dec62_uvarint k (Lib.uvarint s ++ (Lib.uvarint m ++ t)) hk
  have e1 : (Lib.uvarint k ++ (Lib.uvarint s ++ (Lib.uvarint m ++ t))).drop (Lib.uvarint k).length = Lib.uvarint s ++ (Lib.uvarint m ++ t) := List.drop_left
  have d2 := dec62_uvarint s (Lib.uvarint m ++ t) (by omega)
  have e2 : (Lib.uvarint k ++ (Lib.uvarint s ++ (Lib.uvarint m ++ t))).drop ((Lib.uvarint k).length + (Lib.uvarint s).length) = Lib.uvarint m ++ t := by rw [← List.drop_drop, e1, List.drop_left]
  have d3 := dec62_uvarint m t (by omega)
  have e3 : (Lib.uvarint k ++ (Lib.uvarint s ++ (Lib.uvarint m ++ t))).drop ((Lib.uvarint k).length + (Lib.uvarint s).length + (Lib.uvarint m).length) = t := by rw [← List.drop_drop, e2, List.drop_left]
  unfold decS
  simp only [d1, e1, d2, e2, d3, e3]
  rw [if_neg]
  rintro (h | h | h | h | h)
  · exact uv_ne _ h
  · exact uv_ne _ h
  · exact uv_ne _ h
  · omega
  · omega

theorem decS_enc {s : St} (h : MayS s) : decS (encS s) = (s, 0) := by
  obtain ⟨h1, h2, h3⟩ := may_small h
  unfold encS
  rw [decS_three _ _ _ _ h1 (sealN_le h) h2]
  have hr := readL_nums s.L [] h3
  rw [List.append_nil] at hr
  unfold restS
  rw [hr]
  simp only
  rw [if_neg (by simp), mkS_enc h, if_pos h]

/-- With something behind it a state's bytes are none. -/
theorem decS_more {s : St} (h : MayS s) (t : List UInt8) (ht : t ≠ []) : decS (encS s ++ t) = (zeroS, 3) := by
  obtain ⟨h1, h2, h3⟩ := may_small h
  unfold encS
  rw [List.append_assoc, List.append_assoc, List.append_assoc, decS_three _ _ _ _ h1 (sealN_le h) h2]
  unfold restS
  rw [readL_nums s.L t h3]
  simp only
  rw [if_pos]
  have : 0 < t.length := List.length_pos_iff.2 ht
  simp
  omega

theorem dec62_app_cut (u : Nat) (t : List UInt8) (c : Nat) (hu : u < 4611686018427387904) : (c < (Lib.uvarint u).length ∧ (dec62 ((Lib.uvarint u ++ t).take c)).2 = 0) ∨ ((Lib.uvarint u).length ≤ c ∧ (Lib.uvarint u ++ t).take c = Lib.uvarint u ++ t.take (c - (Lib.uvarint u).length)) := by
  by_cases hc : c < (Lib.uvarint u).length
  · left
    rw [List.take_append_of_le_length (by omega), dec62_cut u c hu hc]
    exact ⟨hc, rfl⟩
  · right
    rw [List.take_append, List.take_of_length_le (by omega)]
    exact ⟨by omega, rfl⟩

/-- A state's bytes without the last ones are none. -/
theorem decS_cut {s : St} (h : MayS s) (c : Nat) (hc : c < (encS s).length) : decS ((encS s).take c) = (zeroS, 3) := by
  obtain ⟨h1, h2, h3⟩ := may_small h
  have hs := sealN_le h
  unfold encS at hc ⊢
  generalize s.kind.toNat = k at *
  generalize sealN s = m at *
  rcases dec62_app_cut k (Lib.uvarint m ++ (Lib.uvarint s.L.length ++ numsL s.L)) c h1 with ⟨_, z⟩ | ⟨l1, e1⟩
  · unfold decS
    rw [if_pos (.inl z)]
  rw [e1]
  have d1 := fun t => dec62_uvarint k t h1
  rcases dec62_app_cut m (Lib.uvarint s.L.length ++ numsL s.L) (c - (Lib.uvarint k).length) (by omega) with ⟨_, z⟩ | ⟨l2, e2⟩
  · unfold decS
    rw [if_pos]
    right; left
    rw [d1, List.drop_left]
    exact z
  rw [e2]
  rcases dec62_app_cut s.L.length (numsL s.L) (c - (Lib.uvarint k).length - (Lib.uvarint m).length) (by omega) with ⟨_, z⟩ | ⟨l3, e3⟩
  · unfold decS
    rw [if_pos]
    right; right; left
    have d2 := fun t => dec62_uvarint m t (by omega)
    rw [d1]
    simp only [List.drop_left]
    rw [d2]
    simp only
    rw [← List.drop_drop, List.drop_left, List.drop_left]
    exact z
  rw [e3, decS_three _ _ _ _ h1 hs h2]
  unfold restS
  rw [readL_cut s.L _ h3 (by simp only [List.length_append] at hc; omega)]

theorem decS_codes (l : List UInt8) : (decS l).2 = 0 ∨ ((decS l).1 = zeroS ∧ ((decS l).2 = 3 ∨ (decS l).2 = 1)) := by
  unfold decS
  split
  · exact .inr ⟨rfl, .inl rfl⟩
  · unfold restS
    split
    · exact .inr ⟨rfl, .inl rfl⟩
    · split
      · exact .inr ⟨rfl, .inl rfl⟩
      · split
        · exact .inl rfl
        · exact .inr ⟨rfl, .inr rfl⟩

/-- What is decoded may be, and is encoded as just these bytes. -/
theorem decS_sound {l : List UInt8} (h : (decS l).2 = 0) : MayS (decS l).1 ∧ encS (decS l).1 = l := by
  unfold decS at h ⊢
  by_cases hn : (dec62 l).2 = 0 ∨ (dec62 (l.drop (dec62 l).2)).2 = 0 ∨ (dec62 (l.drop ((dec62 l).2 + (dec62 (l.drop (dec62 l).2)).2))).2 = 0 ∨ 3 < (dec62 (l.drop (dec62 l).2)).1 ∨ 128 < (dec62 (l.drop ((dec62 l).2 + (dec62 (l.drop (dec62 l).2)).2))).1
  · rw [if_pos hn] at h
    cases h
  · rw [if_neg hn] at h ⊢
    have h1 : (dec62 l).2 ≠ 0 := fun e => hn (.inl e)
    have h2 : (dec62 (l.drop (dec62 l).2)).2 ≠ 0 := fun e => hn (.inr (.inl e))
    have h3 : (dec62 (l.drop ((dec62 l).2 + (dec62 (l.drop (dec62 l).2)).2))).2 ≠ 0 := fun e => hn (.inr (.inr (.inl e)))
    have c1 : l.take (dec62 l).2 = Lib.uvarint (dec62 l).1 := by
      rcases dec62_cases l with e | e
      · rw [e] at h1; exact absurd rfl h1
      · exact e.2.2.2
    have c2 : (l.drop (dec62 l).2).take (dec62 (l.drop (dec62 l).2)).2 = Lib.uvarint (dec62 (l.drop (dec62 l).2)).1 := by
      rcases dec62_cases (l.drop (dec62 l).2) with e | e
      · rw [e] at h2; exact absurd rfl h2
      · exact e.2.2.2
    have c3 : (l.drop ((dec62 l).2 + (dec62 (l.drop (dec62 l).2)).2)).take (dec62 (l.drop ((dec62 l).2 + (dec62 (l.drop (dec62 l).2)).2))).2 = Lib.uvarint (dec62 (l.drop ((dec62 l).2 + (dec62 (l.drop (dec62 l).2)).2))).1 := by
      rcases dec62_cases (l.drop ((dec62 l).2 + (dec62 (l.drop (dec62 l).2)).2)) with e | e
      · rw [e] at h3; exact absurd rfl h3
      · exact e.2.2.2
    generalize (dec62 (l.drop ((dec62 l).2 + (dec62 (l.drop (dec62 l).2)).2))).2 = k at *
    generalize (dec62 (l.drop ((dec62 l).2 + (dec62 (l.drop (dec62 l).2)).2))).1 = many at *
    generalize (dec62 (l.drop (dec62 l).2)).2 = j at *
    generalize (dec62 (l.drop (dec62 l).2)).1 = sl at *
    generalize (dec62 l).2 = i at *
    generalize (dec62 l).1 = kind at *
    unfold restS at h ⊢
    cases hr : readL many (l.drop (i + j + k)) with
    | none => rw [hr] at h; cases h
    | some x =>
      obtain ⟨xs, u⟩ := x
      rw [hr] at h
      simp only at h ⊢
      obtain ⟨r1, r2, r3, r4⟩ := readL_sound _ _ _ _ hr
      by_cases hu : u ≠ (l.drop (i + j + k)).length
      · rw [if_pos hu] at h; cases h
      · rw [if_neg hu] at h ⊢
        by_cases hm : MayS (mkS kind sl xs)
        · rw [if_pos hm]
          refine ⟨hm, ?_⟩
          have hu' : u = (l.drop (i + j + k)).length := Classical.byContradiction hu
          rw [hu', List.take_length] at r3
          have ek : (mkS kind sl xs).kind.toNat = kind := by simp [mkS]
          have es : sealN (mkS kind sl xs) = sl := by
            unfold sealN mkS
            by_cases h0 : 0 < sl
            · simp [h0]; omega
            · simp [h0]; omega
          show Lib.uvarint (mkS kind sl xs).kind.toNat ++ (Lib.uvarint (sealN (mkS kind sl xs)) ++ (Lib.uvarint xs.length ++ numsL xs)) = l
          rw [ek, es, r1, r3, ← c1, ← c2, ← c3]
          have f1 : l.drop (i + j) = (l.drop i).drop j := by rw [List.drop_drop]
          have f2 : l.drop (i + j + k) = ((l.drop i).drop j).drop k := by rw [List.drop_drop, List.drop_drop, Nat.add_assoc]
          rw [f1, f2, List.take_append_drop, List.take_append_drop, List.take_append_drop]
        · rw [if_neg hm] at h; cases h

end Go.Proofs.Ytedfacbngefhnaa

/- Schema: records as bytes in three versions, over plain lists, and what follows. -/
namespace Go.Proofs.Ytedfacbngefhnaa

/-- A record. -/
structure Rec where
  idx : Int
  proc : Int
  seq : Int
  op : Opn
  resp : Int

def zeroR : Rec := ⟨0, 0, 0, ⟨0, 0, 0⟩, 0⟩

def FitsR (r : Rec) : Prop := FitsO r.op ∧ 0 ≤ r.idx ∧ r.idx < 4611686018427387904 ∧ 0 ≤ r.seq ∧ r.seq < 4611686018427387904 ∧ 0 ≤ r.proc ∧ r.proc ≤ 64 ∧ -1125899906842624 ≤ r.resp ∧ r.resp ≤ 1125899906842624

instance (r : Rec) : Decidable (FitsR r) := by unfold FitsR; infer_instance

/-- A record as a version can tell it. -/
def upgR (v : Int) (r : Rec) : Rec := ⟨r.idx, r.proc, if v < 2 then 0 else r.seq, r.op, if v < 3 then 0 else r.resp⟩

/-- Has a version a field? -/
def hasV (v f : Nat) : Prop := f = 1 ∨ f = 2 ∨ f = 4 ∨ (f = 3 ∧ 2 ≤ v) ∨ (f = 5 ∧ v = 3)

instance (v f : Nat) : Decidable (hasV v f) := by unfold hasV; infer_instance

/-- A field's bytes. -/
def bytesF (r : Rec) (f : Nat) : List UInt8 :=
  if f = 1 then Lib.uvarint r.idx.toNat else if f = 2 then Lib.uvarint r.proc.toNat else if f = 3 then Lib.uvarint r.seq.toNat
  else if f = 4 then putOpL r.op else Lib.uvarint (Lib.zigzag r.resp)

/-- A record with another's field. -/
def setF (src r : Rec) (f : Nat) : Rec :=
  if f = 1 then { r with idx := src.idx } else if f = 2 then { r with proc := src.proc } else if f = 3 then { r with seq := src.seq }
  else if f = 4 then { r with op := src.op } else { r with resp := src.resp }

/-- A record with the value that bytes begin with, and how many these are. -/
def valueF (r : Rec) (f : Nat) (l : List UInt8) : Rec × Nat :=
  if f = 1 then ({ r with idx := ((dec62 l).1 : Int) }, (dec62 l).2) else if f = 2 then ({ r with proc := ((dec62 l).1 : Int) }, (dec62 l).2)
  else if f = 3 then ({ r with seq := ((dec62 l).1 : Int) }, (dec62 l).2) else if f = 4 then ({ r with op := (getOpL l).1 }, (getOpL l).2)
  else ({ r with resp := zag (dec64 l).1 }, (dec64 l).2)

theorem ne_nil_of {l : List UInt8} (h : 0 < l.length) : l ≠ [] := by intro e; rw [e] at h; simp at h

set_option linter.unusedVariables false in
/-- The fields, one by one, up to the end: the record and how many there were, or the error. -/
def walkV (v : Nat) (l : List UInt8) (last : Int) (found : Nat) (r : Rec) : Except Int (Rec × Nat) :=
  if hl : l = [] then .ok (r, found)
  else if hk : (dec62 l).2 = 0 ∨ ((dec62 l).1 : Int) ≤ last then .error 3
  else if hasV v (dec62 l).1 then
    if (valueF r (dec62 l).1 (l.drop (dec62 l).2)).2 = 0 then .error 3
    else walkV v (l.drop ((dec62 l).2 + (valueF r (dec62 l).1 (l.drop (dec62 l).2)).2)) (dec62 l).1 (found + 1) (valueF r (dec62 l).1 (l.drop (dec62 l).2)).1
  else if (dec62 l).1 < 16 ∨ v = 3 then .error 7
  else if (dec62 (l.drop (dec62 l).2)).2 = 0 ∨ l.length < (dec62 l).2 + (dec62 (l.drop (dec62 l).2)).2 + (dec62 (l.drop (dec62 l).2)).1 then .error 3
  else walkV v (l.drop ((dec62 l).2 + (dec62 (l.drop (dec62 l).2)).2 + (dec62 (l.drop (dec62 l).2)).1)) (dec62 l).1 found r
termination_by l.length
decreasing_by
  all_goals
    have h1 : l.length ≠ 0 := by simpa using hl
    have h2 : (dec62 l).2 ≠ 0 := fun e => hk (.inl e)
    rw [List.length_drop]
    omega

/-- What bytes are: a record, or the error. -/
def decR (l : List UInt8) : Rec × Int :=
  if l = [] then (zeroR, 2)
  else if (dec62 l).2 = 0 then (zeroR, 3)
  else if (dec62 l).1 < 1 ∨ 3 < (dec62 l).1 then (zeroR, 6)
  else match walkV (dec62 l).1 (l.drop (dec62 l).2) (-1) 0 zeroR with
    | .error e => (zeroR, e)
    | .ok (r, found) => if found ≠ (dec62 l).1 + 2 then (zeroR, 7) else if FitsR r then (r, 0) else (zeroR, 1)

/-- The fields of a version. -/
def fieldsV (v : Int) : List Nat := if v = 1 then [1, 2, 4] else if v = 2 then [1, 2, 3, 4] else [1, 2, 3, 4, 5]

def encFs (r : Rec) : List Nat → List UInt8
  | [] => []
  | f :: fs => Lib.uvarint f ++ (bytesF r f ++ encFs r fs)

/-- A record's bytes. -/
def encR (v : Int) (r : Rec) : List UInt8 := Lib.uvarint v.toNat ++ encFs r (fieldsV v)

theorem bytesF_ne (r : Rec) (f : Nat) : (bytesF r f).length ≠ 0 := by
  unfold bytesF putOpL
  repeat' split
  all_goals
    have := Lib.uvarint_pos r.idx.toNat
    have := Lib.uvarint_pos r.proc.toNat
    have := Lib.uvarint_pos r.seq.toNat
    have := Lib.uvarint_pos r.op.code.toNat
    have := Lib.uvarint_pos (Lib.zigzag r.resp)
    try simp only [List.length_append]
    omega

theorem fitsR_resp {r : Rec} (h : FitsR r) : I64 r.resp := i64_small (by have := h.2.2.2.2.2.2.2.1; omega) (by have := h.2.2.2.2.2.2.2.2; omega)

/-- A field that was put is read. -/
theorem valueF_put {src : Rec} (h : FitsR src) (r : Rec) (f : Nat) (t : List UInt8) : valueF r f (bytesF src f ++ t) = (setF src r f, (bytesF src f).length) := by
  have hr := fitsR_resp h
  obtain ⟨h1, h2, h3, h4, h5, h6, h7, h8, h9⟩ := h
  unfold valueF bytesF setF
  repeat' split
  · rw [dec62_uvarint _ _ (by omega), Int.toNat_of_nonneg h2]
  · rw [dec62_uvarint _ _ (by omega), Int.toNat_of_nonneg h6]
  · rw [dec62_uvarint _ _ (by omega), Int.toNat_of_nonneg h4]
  · rw [getOp_put _ h1]
  · rw [dec64_uvarint _ _ (zig_lt hr), zag_zigzag _ hr.1 hr.2]

theorem getOp_cut {o : Opn} (h : FitsO o) (c : Nat) (hc : c < (putOpL o).length) : (getOpL ((putOpL o).take c)).2 = 0 := by
  by_cases h0 : (getOpL ((putOpL o).take c)).2 = 0
  · exact h0
  · exfalso
    obtain ⟨h1, h2⟩ := getOp_sound h0
    have h3 := getOp_le ((putOpL o).take c)
    rw [List.length_take] at h3
    rw [List.take_take] at h2
    have h4 : putOpL o = putOpL (getOpL ((putOpL o).take c)).1 ++ (putOpL o).drop (min (getOpL ((putOpL o).take c)).2 c) := by
      rw [h2, List.take_append_drop]
    have h5 := putOp_apart h1 h h4
    rw [h5] at h2
    have h6 := congrArg List.length h2
    rw [List.length_take] at h6
    omega

/-- A field that is cut off is none. -/
theorem valueF_cut {src : Rec} (h : FitsR src) (r : Rec) (f c : Nat) (hc : c < (bytesF src f).length) : (valueF r f ((bytesF src f).take c)).2 = 0 := by
  have hr := fitsR_resp h
  obtain ⟨h1, h2, h3, h4, h5, h6, h7, h8, h9⟩ := h
  unfold valueF
  unfold bytesF at hc ⊢
  repeat' split
  · rename_i e
    rw [if_pos e] at hc
    rw [dec62_cut _ c (by omega) hc]
  · rename_i e1 e
    rw [if_neg e1, if_pos e] at hc
    rw [dec62_cut _ c (by omega) hc]
  · rename_i e1 e2 e
    rw [if_neg e1, if_neg e2, if_pos e] at hc
    rw [dec62_cut _ c (by omega) hc]
  · rename_i e1 e2 e3 e
    rw [if_neg e1, if_neg e2, if_neg e3, if_pos e] at hc
    exact getOp_cut h1 c hc
  · rename_i e1 e2 e3 e4
    rw [if_neg e1, if_neg e2, if_neg e3, if_neg e4] at hc
    rw [dec64_cut _ c (zig_lt hr) hc]

/-- One field that the version has, read. -/
theorem walk_has {v f : Nat} (hf : hasV v f) {l : List UInt8} {last : Int} {found : Nat} {r : Rec} (hlt : last < f) (hl : l ≠ []) {k : Nat} (hd : dec62 l = (f, k)) (hk : k ≠ 0) :
    walkV v l last found r = if (valueF r f (l.drop k)).2 = 0 then .error 3 else walkV v (l.drop (k + (valueF r f (l.drop k)).2)) f (found + 1) (valueF r f (l.drop k)).1 := by
  rw [walkV, dif_neg hl, dif_neg (by rw [hd]; simp only; omega), hd, if_pos hf]

theorem small_f {v f : Nat} (h : hasV v f) : 1 ≤ f ∧ f ≤ 5 := by unfold hasV at h; omega

theorem walk_field {src : Rec} (hs : FitsR src) {v f : Nat} (hf : hasV v f) (t : List UInt8) {last : Int} (hlt : last < f) (found : Nat) (r : Rec) :
    walkV v (Lib.uvarint f ++ (bytesF src f ++ t)) last found r = walkV v t f (found + 1) (setF src r f) := by
  have hb := small_f hf
  have hp := Lib.uvarint_pos f
  have hd := dec62_uvarint f (bytesF src f ++ t) (by omega)
  rw [walk_has hf hlt (ne_nil_of (by rw [List.length_append]; omega)) hd (by omega), List.drop_left, valueF_put hs, if_neg (bytesF_ne src f)]
  simp only
  rw [← List.drop_drop, List.drop_left, List.drop_left]

/-- Rising from a number on. -/
def Rising : Int → List Nat → Prop
  | _, [] => True
  | a, f :: fs => a < f ∧ Rising f fs

def lastOf : Int → List Nat → Int
  | a, [] => a
  | _, f :: fs => lastOf f fs

theorem walk_fs {src : Rec} (hs : FitsR src) {v : Nat} (t : List UInt8) : ∀ (fs : List Nat) (last : Int) (found : Nat) (r : Rec), Rising last fs → (∀ f ∈ fs, hasV v f) →
    walkV v (encFs src fs ++ t) last found r = walkV v t (lastOf last fs) (found + fs.length) (fs.foldl (setF src) r)
  | [], _, _, _, _, _ => rfl
  | f :: fs, last, found, r, hr, hh => by
    rw [encFs, List.append_assoc, List.append_assoc, walk_field hs (hh f (by simp)) _ hr.1, walk_fs hs t fs f (found + 1) _ hr.2 (fun g hg => hh g (by simp [hg]))]
    simp only [lastOf, List.length_cons, List.foldl_cons]
    rw [show found + 1 + fs.length = found + (fs.length + 1) by omega]

theorem walk_nil (v : Nat) (last : Int) (found : Nat) (r : Rec) : walkV v [] last found r = .ok (r, found) := by
  rw [walkV, dif_pos rfl]

/-- Fields that are cut off: an error, or fewer. -/
theorem walk_cut {src : Rec} (hs : FitsR src) {v : Nat} : ∀ (fs : List Nat) (c : Nat) (last : Int) (found : Nat) (r : Rec), Rising last fs → (∀ f ∈ fs, hasV v f) → c < (encFs src fs).length →
    walkV v ((encFs src fs).take c) last found r = .error 3 ∨ ∃ x n, walkV v ((encFs src fs).take c) last found r = .ok (x, n) ∧ n < found + fs.length
  | [], c, _, _, _, _, _, hc => by simp [encFs] at hc
  | f :: fs, c, last, found, r, hr, hh, hc => by
    have hf := hh f (by simp)
    have hb := small_f hf
    have hp := Lib.uvarint_pos f
    by_cases c0 : c = 0
    · subst c0
      rw [List.take_zero, walk_nil]
      exact .inr ⟨r, found, rfl, by simp⟩
    · by_cases c1 : c < (Lib.uvarint f).length
      · refine .inl ?_
        rw [encFs, List.take_append_of_le_length (by omega)]
        have hd := dec62_cut f c (by omega) c1
        rw [walkV, dif_neg (ne_nil_of (by rw [List.length_take]; omega)), dif_pos (by rw [hd]; exact .inl rfl)]
      · have e : (encFs src (f :: fs)).take c = Lib.uvarint f ++ (bytesF src f ++ encFs src fs).take (c - (Lib.uvarint f).length) := by
          rw [encFs, List.take_append, List.take_of_length_le (by omega)]
        rw [e]
        have hd := dec62_uvarint f ((bytesF src f ++ encFs src fs).take (c - (Lib.uvarint f).length)) (by omega)
        have hne : Lib.uvarint f ++ (bytesF src f ++ encFs src fs).take (c - (Lib.uvarint f).length) ≠ [] := ne_nil_of (by rw [List.length_append]; omega)
        by_cases c2 : c - (Lib.uvarint f).length < (bytesF src f).length
        · refine .inl ?_
          rw [walk_has hf hr.1 hne hd (by omega), List.drop_left, List.take_append_of_le_length (by omega), if_pos (valueF_cut hs r f _ c2)]
        · have e2 : (bytesF src f ++ encFs src fs).take (c - (Lib.uvarint f).length) = bytesF src f ++ (encFs src fs).take (c - (Lib.uvarint f).length - (bytesF src f).length) := by
            rw [List.take_append, List.take_of_length_le (by omega)]
          rw [e2, walk_field hs hf _ hr.1]
          have hc' : c - (Lib.uvarint f).length - (bytesF src f).length < (encFs src fs).length := by
            rw [encFs, List.length_append, List.length_append] at hc
            omega
          rcases walk_cut hs fs _ f (found + 1) (setF src r f) hr.2 (fun g hg => hh g (by simp [hg])) hc' with h | ⟨x, n, h, hn⟩
          · exact .inl h
          · exact .inr ⟨x, n, h, by simp only [List.length_cons]; omega⟩

theorem fields_ok {v : Int} (h1 : 1 ≤ v) (h3 : v ≤ 3) : Rising (-1) (fieldsV v) ∧ (∀ f ∈ fieldsV v, hasV v.toNat f) ∧ (fieldsV v).length = v.toNat + 2 := by
  have hv : v = 1 ∨ v = 2 ∨ v = 3 := by omega
  rcases hv with rfl | rfl | rfl
  · refine ⟨by simp [fieldsV, Rising], ?_, rfl⟩
    intro f hf
    simp [fieldsV] at hf
    unfold hasV
    omega
  · refine ⟨by simp [fieldsV, Rising], ?_, rfl⟩
    intro f hf
    simp [fieldsV] at hf
    unfold hasV
    omega
  · refine ⟨by simp [fieldsV, Rising], ?_, rfl⟩
    intro f hf
    simp [fieldsV] at hf
    unfold hasV
    omega

theorem fields_set {v : Int} (h1 : 1 ≤ v) (h3 : v ≤ 3) (r : Rec) : (fieldsV v).foldl (setF r) zeroR = upgR v r := by
  have hv : v = 1 ∨ v = 2 ∨ v = 3 := by omega
  rcases hv with rfl | rfl | rfl <;> rfl

theorem upg_fits {v : Int} {r : Rec} (h : FitsR r) : FitsR (upgR v r) := by
  obtain ⟨h1, h2, h3, h4, h5, h6, h7, h8, h9⟩ := h
  refine ⟨h1, h2, h3, ?_, ?_, h6, h7, ?_, ?_⟩
  all_goals
    simp only [upgR]
    split <;> omega

theorem decR_enc {v : Int} (h1 : 1 ≤ v) (h3 : v ≤ 3) {r : Rec} (hr : FitsR r) : decR (encR v r) = (upgR v r, 0) := by
  obtain ⟨a, b, c⟩ := fields_ok h1 h3
  have hp := Lib.uvarint_pos v.toNat
  have hd := dec62_uvarint v.toNat (encFs r (fieldsV v)) (by omega)
  have hw := walk_fs hr [] (fieldsV v) (-1) 0 zeroR a b
  rw [List.append_nil, walk_nil, fields_set h1 h3] at hw
  unfold decR
  rw [if_neg (ne_nil_of (by unfold encR; rw [List.length_append]; omega))]
  unfold encR
  rw [hd]
  simp only
  rw [if_neg (by omega), if_neg (by omega), List.drop_left, hw]
  simp only
  rw [if_neg (by omega), if_pos (upg_fits hr)]

/-- Bytes that are cut off are no record. -/
theorem decR_cut {v : Int} (h1 : 1 ≤ v) (h3 : v ≤ 3) {r : Rec} (hr : FitsR r) (c : Nat) (hc : c < (encR v r).length) : (decR ((encR v r).take c)).2 ≠ 0 := by
  obtain ⟨a, b, n⟩ := fields_ok h1 h3
  have hp := Lib.uvarint_pos v.toNat
  have hv1 : (Lib.uvarint v.toNat).length = 1 := by rw [Lib.uvarint_small (by omega)]; rfl
  by_cases c0 : c = 0
  · subst c0
    rw [List.take_zero]
    simp [decR]
  · have e : (encR v r).take c = Lib.uvarint v.toNat ++ (encFs r (fieldsV v)).take (c - (Lib.uvarint v.toNat).length) := by
      unfold encR
      rw [List.take_append, List.take_of_length_le (by omega)]
    have hd := dec62_uvarint v.toNat ((encFs r (fieldsV v)).take (c - (Lib.uvarint v.toNat).length)) (by omega)
    have hc' : c - (Lib.uvarint v.toNat).length < (encFs r (fieldsV v)).length := by
      unfold encR at hc
      rw [List.length_append] at hc
      omega
    have hw := walk_cut hr (fieldsV v) _ (-1) 0 zeroR a b hc'
    rw [e]
    unfold decR
    rw [if_neg (ne_nil_of (by rw [List.length_append]; omega)), hd]
    simp only
    rw [if_neg (by omega), if_neg (by omega), List.drop_left]
    rcases hw with h | ⟨x, m, h, hm⟩
    · rw [h]
      show (3 : Int) ≠ 0
      decide
    · rw [h]
      simp only
      rw [if_pos (by omega)]
      decide

theorem dec62_take {l : List UInt8} (h : (dec62 l).2 ≠ 0) : Lib.uvarint (dec62 l).1 = l.take (dec62 l).2 := by
  rcases dec62_cases l with e | e
  · rw [e] at h; exact absurd rfl h
  · exact e.2.2.2.symm

theorem dec64_take {l : List UInt8} (h : (dec64 l).2 ≠ 0) : Lib.uvarint (dec64 l).1 = l.take (dec64 l).2 := by
  rcases dec64_cases l with e | e
  · rw [e] at h; exact absurd rfl h
  · exact e.2.2.2.symm

/-- A field that is read: its bytes, and no other field changes. -/
theorem value_sound (r : Rec) (f : Nat) (l : List UInt8) (hf : 1 ≤ f ∧ f ≤ 5) (h : (valueF r f l).2 ≠ 0) :
    bytesF (valueF r f l).1 f = l.take (valueF r f l).2 ∧ ∀ g : Nat, g ≠ f → 1 ≤ g → g ≤ 5 → bytesF (valueF r f l).1 g = bytesF r g := by
  have hc : f = 1 ∨ f = 2 ∨ f = 3 ∨ f = 4 ∨ f = 5 := by omega
  rcases hc with rfl | rfl | rfl | rfl | rfl
  · refine ⟨?_, fun g hg g1 g5 => ?_⟩
    · exact dec62_take h
    · have hg : g = 2 ∨ g = 3 ∨ g = 4 ∨ g = 5 := by omega
      rcases hg with rfl | rfl | rfl | rfl <;> rfl
  · refine ⟨?_, fun g hg g1 g5 => ?_⟩
    · exact dec62_take h
    · have hg : g = 1 ∨ g = 3 ∨ g = 4 ∨ g = 5 := by omega
      rcases hg with rfl | rfl | rfl | rfl <;> rfl
  · refine ⟨?_, fun g hg g1 g5 => ?_⟩
    · exact dec62_take h
    · have hg : g = 1 ∨ g = 2 ∨ g = 4 ∨ g = 5 := by omega
      rcases hg with rfl | rfl | rfl | rfl <;> rfl
  · refine ⟨?_, fun g hg g1 g5 => ?_⟩
    · exact (getOp_sound h).2
    · have hg : g = 1 ∨ g = 2 ∨ g = 3 ∨ g = 5 := by omega
      rcases hg with rfl | rfl | rfl | rfl <;> rfl
  · refine ⟨?_, fun g hg g1 g5 => ?_⟩
    · show Lib.uvarint (Lib.zigzag (zag (dec64 l).1)) = _
      rw [zigzag_zag]
      exact dec64_take h
    · have hg : g = 1 ∨ g = 2 ∨ g = 3 ∨ g = 4 := by omega
      rcases hg with rfl | rfl | rfl | rfl <;> rfl

/-- What is read in the newest version is what was put. -/
theorem walk3_sound : ∀ (n : Nat) (l : List UInt8) (last : Int) (found : Nat) (r r' : Rec) (found' : Nat), l.length ≤ n → walkV 3 l last found r = .ok (r', found') →
    ∃ fs, Rising last fs ∧ (∀ f ∈ fs, 1 ≤ f ∧ f ≤ 5) ∧ found' = found + fs.length ∧ l = encFs r' fs ∧ ∀ g : Nat, (g : Int) ≤ last → 1 ≤ g → g ≤ 5 → bytesF r' g = bytesF r g := by
  intro n
  induction n with
  | zero =>
    intro l last found r r' found' hn h
    have hl : l = [] := List.eq_nil_of_length_eq_zero (by omega)
    subst hl
    rw [walk_nil] at h
    injection h with h
    injection h with h1 h2
    subst h1
    subst h2
    exact ⟨[], trivial, by simp, by simp, rfl, fun _ _ _ _ => rfl⟩
  | succ n ih =>
    intro l last found r r' found' hn h
    by_cases hl : l = []
    · subst hl
      rw [walk_nil] at h
      injection h with h
      injection h with h1 h2
      subst h1
      subst h2
      exact ⟨[], trivial, by simp, by simp, rfl, fun _ _ _ _ => rfl⟩
    · rw [walkV, dif_neg hl] at h
      by_cases hk : (dec62 l).2 = 0 ∨ ((dec62 l).1 : Int) ≤ last
      · rw [dif_pos hk] at h
        cases h
      · rw [dif_neg hk] at h
        by_cases hh : hasV 3 (dec62 l).1
        · rw [if_pos hh] at h
          by_cases hm : (valueF r (dec62 l).1 (l.drop (dec62 l).2)).2 = 0
          · rw [if_pos hm] at h
            cases h
          · rw [if_neg hm] at h
            have hb := small_f hh
            obtain ⟨fs, i1, i2, i3, i4, i5⟩ := ih _ _ _ _ _ _ (by rw [List.length_drop]; omega) h
            have hc : l.take (dec62 l).2 = Lib.uvarint (dec62 l).1 := by
              rcases dec62_cases l with e | e
              · rw [e] at hk; exact absurd (.inl rfl) hk
              · exact e.2.2.2
            have hv := value_sound r (dec62 l).1 (l.drop (dec62 l).2) hb hm
            have hs := i5 (dec62 l).1 (Int.le_refl _) hb.1 hb.2
            refine ⟨(dec62 l).1 :: fs, ⟨by omega, i1⟩, ?_, by rw [i3]; simp only [List.length_cons]; omega, ?_, ?_⟩
            · intro f hf
              rcases List.mem_cons.1 hf with e | e
              · rw [e]; exact hb
              · exact i2 f e
            · rw [encFs, ← i4, hs, hv.1, ← hc, ← List.drop_drop, List.take_append_drop, List.take_append_drop]
            · intro g hg g1 g5
              rw [i5 g (by omega) g1 g5]
              exact hv.2 g (by omega) g1 g5
        · rw [if_neg hh, if_pos (.inr rfl)] at h
          cases h

theorem rising5 {fs : List Nat} (h1 : Rising (-1) fs) (h2 : ∀ f ∈ fs, 1 ≤ f ∧ f ≤ 5) (h3 : fs.length = 5) : fs = [1, 2, 3, 4, 5] := by
  match fs, h1, h2, h3 with
  | [a, b, c, d, e], ⟨i1, i2, i3, i4, i5, _⟩, h2, _ =>
    have ha := h2 a (by simp)
    have he := h2 e (by simp)
    have e1 : a = 1 := by omega
    have e2 : b = 2 := by omega
    have e3 : c = 3 := by omega
    have e4 : d = 4 := by omega
    have e5 : e = 5 := by omega
    rw [e1, e2, e3, e4, e5]

theorem walk_codes (v : Nat) : ∀ (n : Nat) (l : List UInt8) (last : Int) (found : Nat) (r : Rec) (e : Int), l.length ≤ n → walkV v l last found r = .error e → e = 3 ∨ e = 7 := by
  intro n
  induction n with
  | zero =>
    intro l last found r e hn h
    have hl : l = [] := List.eq_nil_of_length_eq_zero (by omega)
    subst hl
    rw [walk_nil] at h
    cases h
  | succ n ih =>
    intro l last found r e hn h
    by_cases hl : l = []
    · subst hl
      rw [walk_nil] at h
      cases h
    · rw [walkV, dif_neg hl] at h
      by_cases hk : (dec62 l).2 = 0 ∨ ((dec62 l).1 : Int) ≤ last
      · rw [dif_pos hk] at h
        injection h with h
        exact .inl h.symm
      · rw [dif_neg hk] at h
        split at h
        · split at h
          · injection h with h
            exact .inl h.symm
          · exact ih _ _ _ _ _ (by rw [List.length_drop]; omega) h
        · split at h
          · injection h with h
            exact .inr h.symm
          · split at h
            · injection h with h
              exact .inl h.symm
            · exact ih _ _ _ _ _ (by rw [List.length_drop]; omega) h

/-- With an error no record; else one that fits. -/
theorem decR_codes (l : List UInt8) : ((decR l).2 = 0 ∧ FitsR (decR l).1) ∨ ((decR l).2 ≠ 0 ∧ (decR l).1 = zeroR) := by
  unfold decR
  split
  · exact .inr ⟨by simp, rfl⟩
  split
  · exact .inr ⟨by simp, rfl⟩
  split
  · exact .inr ⟨by simp, rfl⟩
  split
  · rename_i e h
    rcases walk_codes _ _ _ _ _ _ _ (Nat.le_refl _) h with h | h
    · exact .inr ⟨by rw [h]; decide, rfl⟩
    · exact .inr ⟨by rw [h]; decide, rfl⟩
  · split
    · exact .inr ⟨by simp, rfl⟩
    · split
      · rename_i h
        exact .inl ⟨rfl, h⟩
      · exact .inr ⟨by simp, rfl⟩

/-- What is decoded of the newest version is encoded as just these bytes. -/
theorem decR_sound {t : List UInt8} (h : (decR (3 :: t)).2 = 0) : encR 3 (decR (3 :: t)).1 = 3 :: t := by
  have e3 : (3 :: t : List UInt8) = Lib.uvarint 3 ++ t := by rw [Lib.uvarint_small (by decide)]; rfl
  have hd := dec62_uvarint 3 t (by decide)
  have hl1 : (Lib.uvarint 3).length = 1 := by rw [Lib.uvarint_small (by decide)]; rfl
  rw [e3] at h ⊢
  unfold decR at h ⊢
  rw [if_neg (ne_nil_of (by rw [List.length_append]; omega)), hd] at h ⊢
  simp only [hl1] at h ⊢
  rw [if_neg (by omega), if_neg (by omega)] at h ⊢
  rw [show (Lib.uvarint 3 ++ t).drop 1 = t by rw [← hl1, List.drop_left]] at h ⊢
  cases hw : walkV 3 t (-1) 0 zeroR with
  | error e =>
    rw [hw] at h
    simp only at h
    rcases walk_codes _ _ _ _ _ _ _ (Nat.le_refl _) hw with e | e <;> omega
  | ok p =>
    obtain ⟨r, n⟩ := p
    rw [hw] at h
    simp only at h ⊢
    by_cases hn : n = 5
    · subst hn
      rw [if_neg (by simp)] at h ⊢
      by_cases hf : FitsR r
      · rw [if_pos hf]
        obtain ⟨fs, i1, i2, i3, i4, -⟩ := walk3_sound _ _ _ _ _ _ _ (Nat.le_refl _) hw
        rw [rising5 i1 i2 (by omega)] at i4
        show Lib.uvarint 3 ++ encFs r [1, 2, 3, 4, 5] = _
        rw [← i4]
      · rw [if_neg hf] at h
        simp at h
    · rw [if_pos (by omega)] at h
      simp at h

/-- What stands behind the version, read. -/
theorem decR_at (v : Nat) (h1 : 1 ≤ v) (h3 : v ≤ 3) (X : List UInt8) : decR (Lib.uvarint v ++ X) = match walkV v X (-1) 0 zeroR with
    | .error e => (zeroR, e)
    | .ok (r, found) => if found ≠ v + 2 then (zeroR, 7) else if FitsR r then (r, 0) else (zeroR, 1) := by
  have hp := Lib.uvarint_pos v
  have hd := dec62_uvarint v X (by omega)
  unfold decR
  rw [if_neg (ne_nil_of (by rw [List.length_append]; omega)), hd]
  simp only
  rw [if_neg (by omega), if_neg (by omega), List.drop_left]

/-- Something behind it, in the newest version. -/
theorem decR_more {r : Rec} (hr : FitsR r) {t : List UInt8} (ht : t ≠ []) : (decR (encR 3 r ++ t)).2 ≠ 0 := by
  obtain ⟨a, b, -⟩ := fields_ok (v := 3) (by decide) (by decide)
  have hw : walkV 3 (encFs r (fieldsV 3) ++ t) (-1) 0 zeroR = walkV 3 t 5 5 ((fieldsV 3).foldl (setF r) zeroR) := walk_fs hr t (fieldsV 3) (-1) 0 zeroR a b
  have he : ∃ e : Int, walkV 3 t 5 5 ((fieldsV 3).foldl (setF r) zeroR) = .error e ∧ e ≠ 0 := by
    rw [walkV, dif_neg ht]
    by_cases hk : (dec62 t).2 = 0 ∨ ((dec62 t).1 : Int) ≤ 5
    · rw [dif_pos hk]
      exact ⟨3, rfl, by decide⟩
    · rw [dif_neg hk, if_neg (by unfold hasV; omega), if_pos (.inr rfl)]
      exact ⟨7, rfl, by decide⟩
  obtain ⟨e, he, h0⟩ := he
  have hE : encR 3 r ++ t = Lib.uvarint 3 ++ (encFs r (fieldsV 3) ++ t) := List.append_assoc ..
  rw [hE, decR_at 3 (by decide) (by decide), hw, he]
  exact h0

/-- A strange field. -/
theorem decR_strange {v : Int} (h1 : 1 ≤ v) (h3 : v ≤ 3) {r : Rec} (hr : FitsR r) (f : Nat) (hf0 : 16 ≤ f) (hf1 : f < 128) (d : List UInt8) (hd : d.length < 128) :
    decR (encR v r ++ (Lib.uvarint f ++ (Lib.uvarint d.length ++ d))) = if v = 3 then (zeroR, 7) else (upgR v r, 0) := by
  obtain ⟨a, b, n⟩ := fields_ok h1 h3
  have hw := walk_fs hr (Lib.uvarint f ++ (Lib.uvarint d.length ++ d)) (fieldsV v) (-1) 0 zeroR a b
  rw [fields_set h1 h3, n] at hw
  have hlast : lastOf (-1) (fieldsV v) ≤ 5 := by
    have hv : v = 1 ∨ v = 2 ∨ v = 3 := by omega
    rcases hv with rfl | rfl | rfl <;> decide
  have hp := Lib.uvarint_pos f
  have hp2 := Lib.uvarint_pos d.length
  have d1 := dec62_uvarint f (Lib.uvarint d.length ++ d) (by omega)
  have d2 := dec62_uvarint d.length d (by omega)
  have hE : encR v r ++ (Lib.uvarint f ++ (Lib.uvarint d.length ++ d)) = Lib.uvarint v.toNat ++ (encFs r (fieldsV v) ++ (Lib.uvarint f ++ (Lib.uvarint d.length ++ d))) := List.append_assoc ..
  rw [hE, decR_at v.toNat (by omega) (by omega), hw, walkV, dif_neg (ne_nil_of (by rw [List.length_append]; omega)), dif_neg (by rw [d1]; simp only; omega), d1]
  simp only
  rw [if_neg (by unfold hasV; omega)]
  by_cases hv : v = 3
  · subst hv
    rw [if_pos (.inr rfl), if_pos rfl]
  · rw [if_neg (by omega), if_neg hv, List.drop_left, d2]
    simp only
    rw [if_neg (by rw [List.length_append, List.length_append]; omega), show (Lib.uvarint f ++ (Lib.uvarint d.length ++ d)).drop ((Lib.uvarint f).length + (Lib.uvarint d.length).length + d.length) = [] from List.drop_of_length_le (by rw [List.length_append, List.length_append]; omega), walk_nil]
    simp only
    rw [if_neg (by omega), if_pos (upg_fits hr)]

theorem encR_upg {v : Int} (h1 : 1 ≤ v) (h3 : v ≤ 3) (r : Rec) : encR v (upgR v r) = encR v r := by
  have hv : v = 1 ∨ v = 2 ∨ v = 3 := by omega
  rcases hv with rfl | rfl | rfl <;> rfl

theorem upg_upg (v : Int) (r : Rec) : upgR v (upgR v r) = upgR v r := by
  unfold upgR
  simp only
  by_cases h1 : v < 2 <;> by_cases h2 : v < 3 <;> simp [h1, h2]

theorem upg_three (r : Rec) : upgR 3 r = r := rfl

/-- Two records have two texts just if their upgrades are two. -/
theorem encR_inj {v : Int} (h1 : 1 ≤ v) (h3 : v ≤ 3) {r s : Rec} (hr : FitsR r) (hs : FitsR s) : encR v r = encR v s ↔ upgR v r = upgR v s := by
  constructor
  · intro h
    have e1 := decR_enc h1 h3 hr
    rw [h, decR_enc h1 h3 hs] at e1
    injection e1 with e1
    exact e1.symm
  · intro h
    rw [← encR_upg h1 h3 r, h, encR_upg h1 h3 s]

theorem decR_nil : decR [] = (zeroR, 2) := by simp [decR]

end Go.Proofs.Ytedfacbngefhnaa

/- The engine that copies, as plain data, and what stays true of it. -/
namespace Go.Proofs.Ytedfacbngefhnaa

/-- A function that is told anew at one place. -/
def putN {α : Type} (f : Nat → α) (k : Nat) (v : α) : Nat → α := fun j => if j = k then v else f j

theorem putN_same {α : Type} (f : Nat → α) (k : Nat) (v : α) : putN f k v k = v := if_pos rfl

theorem putN_other {α : Type} (f : Nat → α) {k j : Nat} (v : α) (h : j ≠ k) : putN f k v j = f j := if_neg h

/-- What a process does next. -/
inductive Nx where
  | rest | announce | copy | readAnn | swapIn
deriving DecidableEq

/-- Which operation of a process was its last one that was done, and what came of it. -/
structure An where
  seq : Nat
  resp : Int

/-- A process. -/
structure Pc where
  nx : Nx
  did : Nat
  began : Nat
  seq : Nat
  op : Opn
  resp : Int
  frm : Nat
  mst : St
  mlast : Nat → An
  fresh : List Rec
  asked : Nat

/-- An engine. -/
structure Eg where
  n : Nat
  count : Nat
  ann : Nat → Nat
  ops : Nat → Opn
  st : St
  last : Nat → An
  log : List Rec
  ps : Nat → Pc

def an0 : An := ⟨0, 0⟩

def op0 : Opn := ⟨0, 0, 0⟩

def newPc : Pc := ⟨.rest, 0, 0, 0, op0, 0, 0, ⟨0, [], false, 0⟩, fun _ => an0, [], 0⟩

def newEg (s : St) (n : Nat) : Eg := ⟨n, 0, fun _ => 0, fun _ => op0, s, fun _ => an0, [], fun _ => newPc⟩

def beginE (e : Eg) (p : Nat) (o : Opn) : Eg :=
  { e with ps := putN e.ps p { e.ps p with nx := .announce, seq := (e.ps p).seq + 1, op := o, began := (e.ps p).did } }

def announceE (e : Eg) (p : Nat) : Eg :=
  { e with ann := putN e.ann p (e.ps p).seq, ops := putN e.ops p (e.ps p).op, ps := putN e.ps p { e.ps p with nx := .copy, did := (e.ps p).did + 1 } }

def copyE (e : Eg) (p : Nat) : Eg :=
  if (e.last p).seq = (e.ps p).seq then { e with ps := putN e.ps p { e.ps p with nx := .rest, did := (e.ps p).did + 1, frm := e.count, mst := e.st, mlast := e.last, fresh := [], resp := (e.last p).resp } }
  else { e with ps := putN e.ps p { e.ps p with nx := .readAnn, did := (e.ps p).did + 1, frm := e.count, mst := e.st, mlast := e.last, fresh := [], asked := 0 } }

/-- A copy behind an operation. -/
def doneP (q : Pc) (s : Nat) (o : Opn) : Pc :=
  { q with mst := (stepO q.mst o).1, mlast := putN q.mlast q.asked ⟨s, (stepO q.mst o).2⟩, fresh := q.fresh ++ [⟨0, q.asked, s, o, (stepO q.mst o).2⟩] }

def lookP (e : Eg) (q : Pc) : Pc := if (q.mlast q.asked).seq < e.ann q.asked then doneP q (e.ann q.asked) (e.ops q.asked) else q

def readAnnE (e : Eg) (p : Nat) : Eg :=
  { e with ps := putN e.ps p { lookP e (e.ps p) with nx := if (e.ps p).asked + 1 < e.n then .readAnn else .swapIn, did := (e.ps p).did + 1, asked := (e.ps p).asked + 1 } }

/-- Records, numbered. -/
def numb (k : Nat) : List Rec → List Rec
  | [] => []
  | r :: t => ⟨k, r.proc, r.seq, r.op, r.resp⟩ :: numb (k + 1) t

def swapE (e : Eg) (p : Nat) : Eg :=
  if e.count = (e.ps p).frm then
    { e with count := (e.ps p).frm + (e.ps p).fresh.length, log := e.log ++ numb e.log.length (e.ps p).fresh, st := (e.ps p).mst, last := (e.ps p).mlast, ps := putN e.ps p { e.ps p with nx := .rest, did := (e.ps p).did + 1, resp := ((e.ps p).mlast p).resp } }
  else { e with ps := putN e.ps p { e.ps p with nx := .copy, did := (e.ps p).did + 1 } }

/-- A step of a process. -/
def goE (e : Eg) (p : Nat) : Eg :=
  match (e.ps p).nx with
  | .rest => e
  | .announce => announceE e p
  | .copy => copyE e p
  | .readAnn => readAnnE e p
  | .swapIn => swapE e p

theorem numb_length : ∀ (l : List Rec) (k : Nat), (numb k l).length = l.length
  | [], _ => rfl
  | _ :: t, k => by unfold numb; simp [numb_length t (k + 1)]

theorem numb_mem : ∀ {l : List Rec} {k : Nat} {r : Rec}, r ∈ numb k l → ∃ s ∈ l, r.proc = s.proc ∧ r.seq = s.seq ∧ r.op = s.op ∧ r.resp = s.resp
  | [], _, _, h => by simp [numb] at h
  | s :: t, k, r, h => by
    unfold numb at h
    rcases List.mem_cons.1 h with rfl | h
    · exact ⟨s, List.mem_cons_self, rfl, rfl, rfl, rfl⟩
    · obtain ⟨x, hx, h⟩ := numb_mem h
      exact ⟨x, List.mem_cons_of_mem _ hx, h⟩

theorem mem_numb : ∀ {l : List Rec} {k : Nat} {s : Rec}, s ∈ l → ∃ r ∈ numb k l, r.proc = s.proc ∧ r.seq = s.seq ∧ r.op = s.op ∧ r.resp = s.resp
  | [], _, _, h => by simp at h
  | x :: t, k, s, h => by
    unfold numb
    rcases List.mem_cons.1 h with rfl | h
    · exact ⟨_, List.mem_cons_self, rfl, rfl, rfl, rfl⟩
    · obtain ⟨r, hr, h⟩ := mem_numb (k := k + 1) h
      exact ⟨r, List.mem_cons_of_mem _ hr, h⟩

/-- Whatever is never told twice is never told twice when numbered. -/
theorem numb_pair : ∀ {l : List Rec} (k : Nat), (l.Pairwise fun r s => r.proc ≠ s.proc) → (numb k l).Pairwise fun r s => r.proc ≠ s.proc
  | [], _, _ => List.Pairwise.nil
  | x :: t, k, h => by
    unfold numb
    rw [List.pairwise_cons] at h ⊢
    refine ⟨fun r hr => ?_, numb_pair (k + 1) h.2⟩
    obtain ⟨s, hs, h1, _⟩ := numb_mem hr
    rw [h1]
    exact h.1 s hs

/-- A process announced that is not done. -/
def Open (e : Eg) (a : Nat) : Prop := (e.ps a).nx ≠ .rest ∧ (e.ps a).nx ≠ .announce ∧ (e.last a).seq < (e.ps a).seq

/-- What a record of a copy tells of the one whose it is. -/
structure OfR (e : Eg) (a : Nat) (v : An) (r : Rec) : Prop where
  proc : r.proc = a
  seq : r.seq = (e.ps a).seq
  op : r.op = (e.ps a).op
  resp : r.resp = v.resp
  same : v.seq = (e.ps a).seq
  opn : Open e a

/-- A copy of what the object is now. -/
structure Cur (e : Eg) (p : Nat) (q : Pc) : Prop where
  recs : ∀ r ∈ q.fresh, ∃ a : Nat, a < q.asked ∧ a < e.n ∧ OfR e a (q.mlast a) r
  each : ∀ a : Nat, a < e.n → (∃ r ∈ q.fresh, r.proc = a) ∨ q.mlast a = e.last a
  pair : q.fresh.Pairwise fun r s => r.proc ≠ s.proc
  less : (e.last p).seq < q.seq
  own : p < q.asked → (q.mlast p).seq = q.seq

theorem Cur.to {e e' : Eg} {p : Nat} {q : Pc} (h : Cur e p q) (hn : e'.n = e.n) (hl : e'.last = e.last) (ho : ∀ a, a < e.n → Open e a → Open e' a ∧ (e'.ps a).seq = (e.ps a).seq ∧ (e'.ps a).op = (e.ps a).op) : Cur e' p q := by
  refine ⟨fun r hr => ?_, fun a ha => by rw [hl]; exact h.each a (by rw [← hn]; exact ha), h.pair, by rw [hl]; exact h.less, h.own⟩
  obtain ⟨a, h1, h2, h3⟩ := h.recs r hr
  have h4 := ho a h2 h3.opn
  exact ⟨a, h1, by rw [hn]; exact h2, h3.proc, by rw [h4.2.1]; exact h3.seq, by rw [h4.2.2]; exact h3.op, h3.resp, by rw [h4.2.1]; exact h3.same, h4.1⟩

/-- A process that has a copy. -/
structure InvM (e : Eg) (p : Nat) (q : Pc) : Prop where
  asked : q.nx = .readAnn → q.asked < e.n
  all : q.nx = .swapIn → q.asked = e.n
  may : MayS q.mst
  frm : q.frm ≤ e.count
  len : q.fresh.length ≤ q.asked
  cur : q.frm = e.count → Cur e p q

/-- Each process. -/
structure InvP (e : Eg) (p : Nat) (q : Pc) : Prop where
  le : (e.last p).seq ≤ q.seq
  rest : q.nx = .rest → e.ann p = q.seq ∧ (e.last p).seq = q.seq
  wait : q.nx = .announce → e.ann p = (e.last p).seq ∧ (e.last p).seq < q.seq
  ann : q.nx ≠ .rest → q.nx ≠ .announce → e.ann p = q.seq ∧ e.ops p = q.op ∧ 1 ≤ q.seq
  log : ∀ r ∈ e.log, r.proc = p → r.seq ≤ (e.last p).seq
  recd : (e.last p).seq = 0 ∨ ∃ r ∈ e.log, r.proc = p ∧ r.seq = (e.last p).seq ∧ r.resp = (e.last p).resp

/-- Who helps one behind whose announcement something took effect. -/
structure InvB (e : Eg) (g : Nat → Nat) (p : Nat) : Prop where
  two : 2 ≤ g p → (e.last p).seq = (e.ps p).seq
  help : 1 ≤ g p → ∀ r, r < e.n → (e.ps r).nx = .readAnn ∨ (e.ps r).nx = .swapIn → (e.ps r).frm = e.count → p < (e.ps r).asked → ((e.ps r).mlast p).seq = (e.ps p).seq

/-- How many steps. -/
def InvS (e : Eg) (g : Nat → Nat) (p : Nat) (q : Pc) : Prop :=
  match q.nx with
  | .rest => q.began ≤ q.did ∧ q.did ≤ q.began + 2 * e.n + 6
  | .announce => q.did = q.began
  | .copy => q.began ≤ q.did ∧ q.did ≤ q.began + 2 * e.n + 5 ∧ (g p = 0 → q.did ≤ q.began + 1) ∧ (g p ≤ 1 → q.did ≤ q.began + e.n + 3)
  | .readAnn => q.began ≤ q.did ∧ q.did ≤ q.began + e.n + 4 + q.asked ∧ (q.frm < e.count → 1 ≤ g p) ∧ (g p = 0 ∨ (g p ≤ 1 ∧ q.frm < e.count) → q.did ≤ q.began + 2 + q.asked)
  | .swapIn => q.began ≤ q.did ∧ q.did ≤ q.began + e.n + 4 + e.n ∧ (q.frm < e.count → 1 ≤ g p) ∧ (g p = 0 ∨ (g p ≤ 1 ∧ q.frm < e.count) → q.did ≤ q.began + 2 + e.n)

structure InvG (e : Eg) : Prop where
  n1 : 1 ≤ e.n
  count : e.count = e.log.length
  st : MayS e.st

structure Inv (e : Eg) (g : Nat → Nat) : Prop where
  G : InvG e
  P : ∀ p, p < e.n → InvP e p (e.ps p)
  M : ∀ p, p < e.n → (e.ps p).nx = .readAnn ∨ (e.ps p).nx = .swapIn → InvM e p (e.ps p)
  B : ∀ p, p < e.n → (e.ps p).nx ≠ .rest → (e.ps p).nx ≠ .announce → InvB e g p
  S : ∀ p, p < e.n → InvS e g p (e.ps p)

theorem newEg_inv (s : St) (hs : MayS s) (n : Nat) (h1 : 1 ≤ n) : Inv (newEg s n) fun _ => 0 := by
  refine ⟨⟨h1, rfl, hs⟩, fun p _ => ?_, fun p _ h => ?_, fun p _ h => absurd rfl h, fun p _ => ?_⟩
  · exact ⟨Nat.le_refl _, fun _ => ⟨rfl, rfl⟩, nofun, fun h => absurd rfl h, nofun, .inl rfl⟩
  · rcases h with h | h <;> cases h
  · exact ⟨Nat.le_refl _, by simp [newEg, newPc]⟩

theorem begin_inv {e : Eg} {g : Nat → Nat} {p : Nat} (h : Inv e g) (hp : p < e.n) (hx : (e.ps p).nx = .rest) (o : Opn) : Inv (beginE e p o) g := by
  have P := h.P p hp
  have hr := P.rest hx
  have fp : ∀ r, r ≠ p → (beginE e p o).ps r = e.ps r := fun r hr => putN_other _ _ hr
  have fpp : (beginE e p o).ps p = { e.ps p with nx := .announce, seq := (e.ps p).seq + 1, op := o, began := (e.ps p).did } := putN_same _ _ _
  have opn : ∀ a, Open e a → a ≠ p := by rintro a ha rfl; exact ha.1 hx
  refine ⟨⟨h.G.n1, h.G.count, h.G.st⟩, fun r hr' => ?_, fun r hr' hn => ?_, fun r hr' h1 h2 => ?_, fun r hr' => ?_⟩
  · by_cases a : r = p
    · subst a
      rw [fpp]
      have := P.le
      exact ⟨by show (e.last r).seq ≤ (e.ps r).seq + 1; omega, nofun, fun _ => ⟨by show e.ann r = (e.last r).seq; omega, by show (e.last r).seq < (e.ps r).seq + 1; omega⟩, fun _ h2 => absurd rfl h2, P.log, P.recd⟩
    · rw [fp r a]
      have := h.P r hr'
      exact ⟨this.le, this.rest, this.wait, this.ann, this.log, this.recd⟩
  · by_cases a : r = p
    · subst a
      rw [fpp] at hn
      rcases hn with hn | hn <;> cases hn
    · rw [fp r a] at hn ⊢
      have M := h.M r hr' hn
      refine ⟨M.asked, M.all, M.may, M.frm, M.len, fun hc => ?_⟩
      exact (M.cur hc).to rfl rfl fun b hb ho => by
        have hb := fp b (opn b ho)
        exact ⟨by unfold Open; rw [hb]; exact ho, by rw [hb], by rw [hb]⟩
  · have a : r ≠ p := by
      rintro rfl
      rw [fpp] at h2
      exact h2 rfl
    rw [fp r a] at h1 h2
    have B := h.B r hr' h1 h2
    refine ⟨by rw [fp r a]; exact B.two, fun hg k hk hn hc => ?_⟩
    by_cases b : k = p
    · subst b
      rw [fpp] at hn
      rcases hn with hn | hn <;> cases hn
    · rw [fp k b, fp r a] at *
      exact B.help hg k hk hn hc
  · by_cases a : r = p
    · subst a
      rw [fpp]
      exact rfl
    · rw [fp r a]
      exact h.S r hr'

end Go.Proofs.Ytedfacbngefhnaa

/- Each step of the engine that copies keeps what is true of it. -/
namespace Go.Proofs.Ytedfacbngefhnaa

/-- Only what a process itself knows has changed. -/
theorem Inv.self {e : Eg} {g : Nat → Nat} {p : Nat} {q' : Pc} (h : Inv e g) (hp : p < e.n) (hs : q'.seq = (e.ps p).seq) (ho : q'.op = (e.ps p).op) (hb : (e.ps p).nx ≠ .rest) (hb' : (e.ps p).nx ≠ .announce)
    (hq : q'.nx ≠ .announce) (hr : q'.nx = .rest → (e.last p).seq = (e.ps p).seq) (M : q'.nx = .readAnn ∨ q'.nx = .swapIn → InvM e p q') (S : InvS e g p q')
    (hh : q'.nx = .readAnn ∨ q'.nx = .swapIn → q'.frm = e.count → ∀ a, a < e.n → (e.ps a).nx ≠ .rest → (e.ps a).nx ≠ .announce → 1 ≤ g a → a < q'.asked → (q'.mlast a).seq = (e.ps a).seq) :
    Inv { e with ps := putN e.ps p q' } g := by
  have P := h.P p hp
  have A := P.ann hb hb'
  have fp : ∀ r, r ≠ p → putN e.ps p q' r = e.ps r := fun r hr => putN_other _ _ hr
  have fpp : putN e.ps p q' p = q' := putN_same _ _ _
  have fs : ∀ r, (putN e.ps p q' r).seq = (e.ps r).seq ∧ (putN e.ps p q' r).op = (e.ps r).op := fun r => by
    by_cases a : r = p
    · subst a; rw [fpp]; exact ⟨hs, ho⟩
    · rw [fp r a]; exact ⟨rfl, rfl⟩
  have fo : ∀ a, a < e.n → Open e a → Open { e with ps := putN e.ps p q' } a ∧ (putN e.ps p q' a).seq = (e.ps a).seq ∧ (putN e.ps p q' a).op = (e.ps a).op := fun a _ ha => by
    refine ⟨?_, fs a⟩
    unfold Open
    dsimp only
    rw [(fs a).1]
    by_cases b : a = p
    · subst b
      rw [fpp]
      refine ⟨fun c => ?_, hq, ha.2.2⟩
      have := hr c
      have := ha.2.2
      omega
    · rw [fp a b]
      exact ha
  have toM : ∀ {r : Nat} {q : Pc}, InvM e r q → InvM { e with ps := putN e.ps p q' } r q := fun M => ⟨M.asked, M.all, M.may, M.frm, M.len, fun hc => (M.cur hc).to rfl rfl fo⟩
  refine ⟨⟨h.G.n1, h.G.count, h.G.st⟩, fun r hr' => ?_, fun r hr' hn => ?_, fun r hr' h1 h2 => ?_, fun r hr' => ?_⟩
  · dsimp only
    by_cases a : r = p
    · subst a
      rw [fpp]
      refine ⟨by rw [hs]; exact P.le, fun c => ?_, fun c => absurd c hq, fun _ _ => ?_, P.log, P.recd⟩
      · rw [hs]; exact ⟨A.1, hr c⟩
      · rw [hs, ho]; exact A
    · rw [fp r a]
      have := h.P r hr'
      exact ⟨this.le, this.rest, this.wait, this.ann, this.log, this.recd⟩
  · dsimp only at hn ⊢
    by_cases a : r = p
    · subst a
      rw [fpp] at hn ⊢
      exact toM (M hn)
    · rw [fp r a] at hn ⊢
      exact toM (h.M r hr' hn)
  · dsimp only at h1 h2
    have hb3 : (e.ps r).nx ≠ .rest ∧ (e.ps r).nx ≠ .announce := by
      by_cases a : r = p
      · subst a; exact ⟨hb, hb'⟩
      · rw [fp r a] at h1 h2; exact ⟨h1, h2⟩
    have B := h.B r hr' hb3.1 hb3.2
    refine ⟨by dsimp only; rw [(fs r).1]; exact B.two, fun hg k hk hn hc => ?_⟩
    dsimp only at hn hc ⊢
    rw [(fs r).1]
    by_cases b : k = p
    · subst b
      rw [fpp] at hn hc ⊢
      exact hh hn hc r hr' hb3.1 hb3.2 hg
    · rw [fp k b] at hn hc ⊢
      exact B.help hg k hk hn hc
  · dsimp only
    by_cases a : r = p
    · subst a
      rw [fpp]
      exact S
    · rw [fp r a]
      exact h.S r hr'

theorem announce_inv {e : Eg} {g : Nat → Nat} {p : Nat} (h : Inv e g) (hp : p < e.n) (hx : (e.ps p).nx = .announce) : Inv (announceE e p) (putN g p 0) := by
  have P := h.P p hp
  have W := P.wait hx
  have S := h.S p hp
  unfold InvS at S
  rw [hx] at S
  dsimp only at S
  have fp : ∀ r, r ≠ p → (announceE e p).ps r = e.ps r := fun r hr => putN_other _ _ hr
  have fpp : (announceE e p).ps p = { e.ps p with nx := .copy, did := (e.ps p).did + 1 } := putN_same _ _ _
  have opn : ∀ a, Open e a → a ≠ p := by rintro a ha rfl; exact ha.2.1 hx
  refine ⟨⟨h.G.n1, h.G.count, h.G.st⟩, fun r hr' => ?_, fun r hr' hn => ?_, fun r hr' h1 h2 => ?_, fun r hr' => ?_⟩
  · by_cases a : r = p
    · subst a
      rw [fpp]
      exact ⟨P.le, nofun, nofun, fun _ _ => ⟨putN_same _ _ _, putN_same _ _ _, by show 1 ≤ (e.ps r).seq; omega⟩, P.log, P.recd⟩
    · rw [fp r a]
      have := h.P r hr'
      have e1 : (announceE e p).ann r = e.ann r := putN_other _ _ a
      have e2 : (announceE e p).ops r = e.ops r := putN_other _ _ a
      exact ⟨this.le, by rw [e1]; exact this.rest, by rw [e1]; exact this.wait, by rw [e1, e2]; exact this.ann, this.log, this.recd⟩
  · by_cases a : r = p
    · subst a
      rw [fpp] at hn
      rcases hn with hn | hn <;> cases hn
    · rw [fp r a] at hn ⊢
      have M := h.M r hr' hn
      refine ⟨M.asked, M.all, M.may, M.frm, M.len, fun hc => ?_⟩
      exact (M.cur hc).to rfl rfl fun b hb ho => by
        have hb := fp b (opn b ho)
        exact ⟨by unfold Open; rw [hb]; exact ho, by rw [hb], by rw [hb]⟩
  · by_cases a : r = p
    · subst a
      have e1 : putN g r 0 r = 0 := putN_same _ _ _
      exact ⟨by rw [e1]; intro c; omega, by rw [e1]; intro c; omega⟩
    · rw [fp r a] at h1 h2
      have B := h.B r hr' h1 h2
      have e1 : putN g p 0 r = g r := putN_other _ _ a
      refine ⟨by rw [e1, fp r a]; exact B.two, fun hg k hk hn hc => ?_⟩
      rw [e1] at hg
      by_cases b : k = p
      · subst b
        rw [fpp] at hn
        rcases hn with hn | hn <;> cases hn
      · rw [fp k b, fp r a] at *
        exact B.help hg k hk hn hc
  · by_cases a : r = p
    · subst a
      rw [fpp]
      have e1 : putN g r 0 r = 0 := putN_same _ _ _
      have n1 := h.G.n1
      unfold InvS
      rw [e1]
      show _ ≤ (e.ps r).did + 1 ∧ (e.ps r).did + 1 ≤ (e.ps r).began + 2 * e.n + 5 ∧ (_ → (e.ps r).did + 1 ≤ (e.ps r).began + 1) ∧ (_ → (e.ps r).did + 1 ≤ (e.ps r).began + e.n + 3)
      dsimp only
      omega
    · rw [fp r a]
      have := h.S r hr'
      have e1 : putN g p 0 r = g r := putN_other _ _ a
      unfold InvS at this ⊢
      rw [e1]
      exact this

theorem copy_inv {e : Eg} {g : Nat → Nat} {p : Nat} (h : Inv e g) (hp : p < e.n) (hx : (e.ps p).nx = .copy) : Inv (copyE e p) g := by
  have P := h.P p hp
  have S := h.S p hp
  have B := h.B p hp (by rw [hx]; nofun) (by rw [hx]; nofun)
  unfold InvS at S
  rw [hx] at S
  dsimp only at S
  unfold copyE
  split
  · rename_i h0
    refine h.self hp rfl rfl (by rw [hx]; nofun) (by rw [hx]; nofun) nofun (fun _ => h0) (fun c => by rcases c with c | c <;> cases c) ?_ (fun c => by rcases c with c | c <;> cases c)
    unfold InvS
    dsimp only
    omega
  · rename_i h0
    refine h.self hp rfl rfl (by rw [hx]; nofun) (by rw [hx]; nofun) nofun nofun (fun _ => ⟨fun _ => h.G.n1, nofun, h.G.st, Nat.le_refl _, Nat.le_refl _, fun _ => ⟨nofun, fun a _ => .inr rfl, List.Pairwise.nil, ?_, nofun⟩⟩) ?_ (fun _ _ a _ _ _ _ c => by simp at c)
    · have := P.le
      dsimp only
      omega
    · have := B.two
      unfold InvS
      dsimp only
      omega

/-- What a copy that stands for what is now knows of one at whom it looks. -/
theorem Cur.at {e : Eg} {g : Nat → Nat} {p : Nat} {q : Pc} (h : Inv e g) (C : Cur e p q) {a : Nat} (ha : a < e.n) : ((q.mlast a).seq ≤ (e.ps a).seq) ∧ (q.asked ≤ a → q.mlast a = e.last a ∧ ∀ r ∈ q.fresh, r.proc ≠ a) := by
  have no : q.asked ≤ a → ∀ r ∈ q.fresh, r.proc ≠ a := fun hl r hr hpr => by
    obtain ⟨b, h1, h2, h3⟩ := C.recs r hr
    have := h3.proc
    omega
  refine ⟨?_, fun hl => ⟨?_, no hl⟩⟩
  · rcases C.each a ha with ⟨r, hr, hpr⟩ | c
    · obtain ⟨b, h1, h2, h3⟩ := C.recs r hr
      have := h3.proc
      have : b = a := by omega
      subst this
      exact Nat.le_of_eq h3.same
    · rw [c]
      exact (h.P a ha).le
  · rcases C.each a ha with ⟨r, hr, hpr⟩ | c
    · exact absurd hpr (no hl r hr)
    · exact c

theorem look_mlast {e : Eg} {q : Pc} {a : Nat} (h : a ≠ q.asked) : (lookP e q).mlast a = q.mlast a := by
  unfold lookP
  split
  · exact putN_other _ _ h
  · rfl

theorem look_cur {e : Eg} {g : Nat → Nat} {p : Nat} {q : Pc} (h : Inv e g) (hp : p < e.n) (hs : q.seq = (e.ps p).seq) (hb : (e.ps p).nx ≠ .rest) (hb' : (e.ps p).nx ≠ .announce) (ha : q.asked < e.n) (C : Cur e p q) (x : Nx) (d : Nat) :
    Cur e p { lookP e q with nx := x, did := d, asked := q.asked + 1 } := by
  have hat := C.at h ha
  have at2 := hat.2 (Nat.le_refl _)
  unfold lookP
  split
  · rename_i h0
    have PA := h.P _ ha
    have h1 : (e.last q.asked).seq < e.ann q.asked := by rw [← at2.1]; exact h0
    have n1 : (e.ps q.asked).nx ≠ .rest := fun c => by have := PA.rest c; omega
    have n2 : (e.ps q.asked).nx ≠ .announce := fun c => by have := PA.wait c; omega
    have A := PA.ann n1 n2
    refine ⟨fun r hr => ?_, fun a ha2 => ?_, ?_, C.less, fun hlt => ?_⟩
    · rcases List.mem_append.1 hr with hr | hr
      · obtain ⟨b, h2, h3, h4⟩ := C.recs r hr
        refine ⟨b, Nat.lt_succ_of_lt h2, h3, ?_⟩
        show OfR e b (putN q.mlast q.asked _ b) r
        rw [putN_other _ _ (by omega)]
        exact h4
      · obtain rfl := List.mem_singleton.1 hr
        refine ⟨q.asked, Nat.lt_succ_self _, ha, ?_⟩
        show OfR e q.asked (putN q.mlast q.asked _ q.asked) _
        rw [putN_same]
        exact ⟨rfl, by show ((e.ann q.asked : Nat) : Int) = _; rw [A.1], A.2.1, rfl, A.1, n1, n2, by omega⟩
    · by_cases b : a = q.asked
      · subst b
        exact .inl ⟨_, List.mem_append_right _ (List.mem_singleton.2 rfl), rfl⟩
      · rcases C.each a ha2 with ⟨r, hr, h2⟩ | h2
        · exact .inl ⟨r, List.mem_append_left _ hr, h2⟩
        · right
          show putN q.mlast q.asked _ a = _
          rw [putN_other _ _ b]
          exact h2
    · show (q.fresh ++ _).Pairwise _
      rw [List.pairwise_append]
      refine ⟨C.pair, List.pairwise_singleton _ _, fun r hr s hs => ?_⟩
      obtain rfl := List.mem_singleton.1 hs
      exact at2.2 r hr
    · show (putN q.mlast q.asked _ p).seq = q.seq
      by_cases b : p = q.asked
      · subst b
        rw [putN_same, hs]
        exact A.1
      · rw [putN_other _ _ b]
        have h3 : p < q.asked + 1 := hlt
        exact C.own (by omega)
  · rename_i h0
    refine ⟨fun r hr => ?_, C.each, C.pair, C.less, fun hlt => ?_⟩
    · obtain ⟨b, h2, h3, h4⟩ := C.recs r hr
      exact ⟨b, Nat.lt_succ_of_lt h2, h3, h4⟩
    · show (q.mlast p).seq = q.seq
      by_cases b : p = q.asked
      · subst b
        have := (h.P _ hp).ann hb hb'
        have := hat.1
        omega
      · have h3 : p < q.asked + 1 := hlt
        exact C.own (by omega)

theorem look_same (e : Eg) (q : Pc) : (lookP e q).seq = q.seq ∧ (lookP e q).op = q.op ∧ (lookP e q).began = q.began ∧ (lookP e q).frm = q.frm ∧ (MayS q.mst → MayS (lookP e q).mst) := by
  unfold lookP
  split
  · exact ⟨rfl, rfl, rfl, rfl, fun h => stepO_may h _⟩
  · exact ⟨rfl, rfl, rfl, rfl, id⟩

theorem readAnn_inv {e : Eg} {g : Nat → Nat} {p : Nat} (h : Inv e g) (hp : p < e.n) (hx : (e.ps p).nx = .readAnn) : Inv (readAnnE e p) g := by
  have S := h.S p hp
  have M := h.M p hp (.inl hx)
  have hb : (e.ps p).nx ≠ .rest := by rw [hx]; nofun
  have hb' : (e.ps p).nx ≠ .announce := by rw [hx]; nofun
  unfold InvS at S
  rw [hx] at S
  dsimp only at S
  have ha := M.asked hx
  obtain ⟨l1, l2, l3, l4, l5⟩ := look_same e (e.ps p)
  have nx1 : ∀ c : Nx, c ≠ .readAnn → c ≠ .swapIn → (if (e.ps p).asked + 1 < e.n then Nx.readAnn else Nx.swapIn) = c → False := by
    intro c c1 c2 c3
    split at c3
    · exact c1 c3.symm
    · exact c2 c3.symm
  unfold readAnnE
  refine h.self hp l1 l2 hb hb' (fun c => (nx1 .announce nofun nofun c).elim) (fun c => (nx1 .rest nofun nofun c).elim) (fun _ => ⟨fun c => ?_, fun c => ?_, l5 M.may, ?_, ?_, fun hc => ?_⟩) ?_ ?_
  · dsimp only at c ⊢
    split at c
    · assumption
    · cases c
  · dsimp only at c ⊢
    split at c
    · cases c
    · omega
  · show (lookP e (e.ps p)).frm ≤ e.count
    rw [l4]
    exact M.frm
  · have := M.len
    show (lookP e (e.ps p)).fresh.length ≤ (e.ps p).asked + 1
    unfold lookP
    split
    · show ((e.ps p).fresh ++ _).length ≤ _
      simp
      omega
    · omega
  · refine look_cur h hp rfl hb hb' ha (M.cur ?_) _ _
    rw [← l4]
    exact hc
  · unfold InvS
    dsimp only
    rw [l3, l4]
    by_cases c : (e.ps p).asked + 1 < e.n
    · rw [if_pos c]
      dsimp only
      omega
    · rw [if_neg c]
      dsimp only
      omega
  · intro _ hc a ha2 h1 h2 hg hlt
    dsimp only at hc hlt ⊢
    rw [l4] at hc
    by_cases b : a = (e.ps p).asked
    · have A := (h.P a ha2).ann h1 h2
      have C := M.cur hc
      have hle := (C.at h ha2).1
      unfold lookP
      split
      · rename_i h0
        show (putN (e.ps p).mlast (e.ps p).asked (⟨e.ann (e.ps p).asked, (stepO (e.ps p).mst (e.ops (e.ps p).asked)).2⟩ : An) a).seq = _
        rw [b, putN_same, ← b]
        exact A.1
      · rename_i h0
        rw [← b] at h0
        omega
    · rw [look_mlast b]
      exact (h.B a ha2 h1 h2).help hg p hp (.inl hx) hc (by omega)

theorem swap_inv {e : Eg} {g : Nat → Nat} {p : Nat} (h : Inv e g) (hp : p < e.n) (hx : (e.ps p).nx = .swapIn) :
    (e.count ≠ (e.ps p).frm ∧ Inv (swapE e p) g) ∨ (e.count = (e.ps p).frm ∧ Cur e p (e.ps p) ∧ Inv (swapE e p) fun r => g r + 1) := by
  have P := h.P p hp
  have S := h.S p hp
  have M := h.M p hp (.inr hx)
  have hb : (e.ps p).nx ≠ .rest := by rw [hx]; nofun
  have hb' : (e.ps p).nx ≠ .announce := by rw [hx]; nofun
  unfold InvS at S
  rw [hx] at S
  dsimp only at S
  by_cases h0 : e.count = (e.ps p).frm
  · right
    have C := M.cur h0.symm
    refine ⟨h0, C, ?_⟩
    have hask := M.all hx
    have own := C.own (by omega)
    have new : 1 ≤ (e.ps p).fresh.length := by
      rcases C.each p hp with ⟨r, hr, _⟩ | c
      · exact List.length_pos_of_mem hr
      · have := C.less
        rw [c] at own
        omega
    have fp : ∀ r, r ≠ p → (swapE e p).ps r = e.ps r := fun r hr => by unfold swapE; rw [if_pos h0]; exact putN_other _ _ hr
    have fpp : (swapE e p).ps p = { e.ps p with nx := .rest, did := (e.ps p).did + 1, resp := ((e.ps p).mlast p).resp } := by unfold swapE; rw [if_pos h0]; exact putN_same _ _ _
    have f1 : (swapE e p).n = e.n := by unfold swapE; rw [if_pos h0]
    have f2 : (swapE e p).count = (e.ps p).frm + (e.ps p).fresh.length := by unfold swapE; rw [if_pos h0]
    have f3 : (swapE e p).log = e.log ++ numb e.log.length (e.ps p).fresh := by unfold swapE; rw [if_pos h0]
    have f4 : (swapE e p).st = (e.ps p).mst := by unfold swapE; rw [if_pos h0]
    have f5 : (swapE e p).last = (e.ps p).mlast := by unfold swapE; rw [if_pos h0]
    have f6 : (swapE e p).ann = e.ann := by unfold swapE; rw [if_pos h0]
    have f7 : (swapE e p).ops = e.ops := by unfold swapE; rw [if_pos h0]
    have cnt := h.G.count
    have fs : ∀ r, ((swapE e p).ps r).seq = (e.ps r).seq ∧ ((swapE e p).ps r).op = (e.ps r).op := fun r => by
      by_cases a : r = p
      · subst a; rw [fpp]; exact ⟨rfl, rfl⟩
      · rw [fp r a]; exact ⟨rfl, rfl⟩
    have grown : ∀ a, a < e.n → (e.last a).seq ≤ ((e.ps p).mlast a).seq ∧ (¬ Open e a → (e.ps p).mlast a = e.last a) := fun a ha => by
      rcases C.each a ha with ⟨r, hr, hpr⟩ | c
      · obtain ⟨b, h1, h2, h3⟩ := C.recs r hr
        have := h3.proc
        have : b = a := by omega
        subst this
        have := h3.opn.2.2
        have := h3.same
        exact ⟨by omega, fun c => absurd h3.opn c⟩
      · rw [c]
        exact ⟨Nat.le_refl _, fun _ => rfl⟩
    have logs : ∀ a, a < e.n → (∀ r ∈ (swapE e p).log, r.proc = a → r.seq ≤ ((e.ps p).mlast a).seq) ∧ (((e.ps p).mlast a).seq = 0 ∨ ∃ r ∈ (swapE e p).log, r.proc = a ∧ r.seq = ((e.ps p).mlast a).seq ∧ r.resp = ((e.ps p).mlast a).resp) := fun a ha => by
      have PA := h.P a ha
      have gr := (grown a ha).1
      rw [f3]
      refine ⟨fun r hr hpr => ?_, ?_⟩
      · rcases List.mem_append.1 hr with hr | hr
        · have := PA.log r hr hpr
          omega
        · obtain ⟨s, hs, h1, h2, h3, h4⟩ := numb_mem hr
          obtain ⟨b, h5, h6, h7⟩ := C.recs s hs
          have := h7.proc
          have : b = a := by omega
          subst this
          have := h7.seq
          have := h7.same
          omega
      · rcases C.each a ha with ⟨s, hs, hpr⟩ | c
        · right
          obtain ⟨r, hr, h1, h2, h3, h4⟩ := mem_numb (k := e.log.length) hs
          obtain ⟨b, h5, h6, h7⟩ := C.recs s hs
          have := h7.proc
          have : b = a := by omega
          subst this
          exact ⟨r, List.mem_append_right _ hr, by rw [h1]; exact hpr, by rw [h2, h7.seq, h7.same], by rw [h4, h7.resp]⟩
        · rw [c]
          refine PA.recd.imp id ?_
          rintro ⟨r, hr, h1⟩
          exact ⟨r, List.mem_append_left _ hr, h1⟩
    refine ⟨⟨by rw [f1]; exact h.G.n1, by rw [f2, f3, List.length_append, numb_length]; omega, by rw [f4]; exact M.may⟩, fun r hr' => ?_, fun r hr' hn => ?_, fun r hr' h1 h2 => ?_, fun r hr' => ?_⟩
    · rw [f1] at hr'
      have L := logs r hr'
      by_cases a : r = p
      · subst a
        rw [fpp]
        refine ⟨by rw [f5]; exact Nat.le_of_eq own, fun _ => ⟨by rw [f6]; exact (P.ann hb hb').1, by rw [f5]; exact own⟩, nofun, fun c => absurd rfl c, by rw [f5]; exact L.1, by rw [f5]; exact L.2⟩
      · rw [fp r a]
        have PR := h.P r hr'
        have gr := grown r hr'
        refine ⟨by rw [f5]; exact (C.at h hr').1, fun c => ?_, fun c => ?_, fun c1 c2 => by rw [f6, f7]; exact PR.ann c1 c2, by rw [f5]; exact L.1, by rw [f5]; exact L.2⟩
        · rw [f6, f5, gr.2 fun o => o.1 c]
          exact PR.rest c
        · rw [f6, f5, gr.2 fun o => o.2.1 c]
          exact PR.wait c
    · rw [f1] at hr'
      by_cases a : r = p
      · subst a
        rw [fpp] at hn
        rcases hn with hn | hn <;> cases hn
      · rw [fp r a] at hn ⊢
        have MR := h.M r hr' hn
        have := MR.frm
        exact ⟨by rw [f1]; exact MR.asked, by rw [f1]; exact MR.all, MR.may, by rw [f2]; omega, MR.len, fun hc => by rw [f2] at hc; omega⟩
    · rw [f1] at hr'
      have a : r ≠ p := by
        rintro rfl
        rw [fpp] at h1
        exact h1 rfl
      rw [fp r a] at h1 h2
      have B := h.B r hr' h1 h2
      refine ⟨fun hg => ?_, fun hg k hk hn hc => ?_⟩
      · rw [f5, fp r a]
        exact B.help (by omega) p hp (.inr hx) h0.symm (by omega)
      · rw [f1] at hk
        by_cases b : k = p
        · subst b
          rw [fpp] at hn
          rcases hn with hn | hn <;> cases hn
        · rw [fp k b] at hn hc
          have := (h.M k hk hn).frm
          rw [f2] at hc
          omega
    · rw [f1] at hr'
      by_cases a : r = p
      · subst a
        rw [fpp]
        unfold InvS
        rw [f1]
        dsimp only
        omega
      · rw [fp r a]
        have SR := h.S r hr'
        have new2 := (h.M r hr')
        unfold InvS at SR ⊢
        rw [f1, f2]
        dsimp only
        split <;> rename_i hx2 <;> rw [hx2] at SR new2 <;> dsimp only at SR
        · exact SR
        · exact SR
        · omega
        · omega
        · omega
  · left
    refine ⟨h0, ?_⟩
    have hf := M.frm
    unfold swapE
    rw [if_neg h0]
    refine h.self hp rfl rfl hb hb' nofun nofun (fun c => by rcases c with c | c <;> cases c) ?_ (fun c => by rcases c with c | c <;> cases c)
    unfold InvS
    dsimp only
    omega

end Go.Proofs.Ytedfacbngefhnaa

/- Histories of an object that processes share, whatever its program: what of them holds in any order of steps. -/
namespace Go.Proofs.Ytedfacbngefhnaa

def Stands (log : List Rec) (p s : Nat) : Prop := ∃ r ∈ log, r.proc = p ∧ r.seq = s

/-- What of two records tells that they are of one operation. -/
def TwinR (r s : Rec) : Prop := r.proc = s.proc ∧ r.seq = s.seq

/-- A program by which processes share an object. -/
structure Mod (E : Type) where
  n : E → Nat
  ok : E → Prop
  seq : E → Nat → Nat
  busy : E → Nat → Bool
  cur : E → Nat → Opn
  log : E → List Rec
  steps : E → Nat → Nat
  resp : E → Nat → Int
  beg : E → Nat → Opn → E
  go : E → Nat → E

/-- What it keeps. -/
structure ModOk {E : Type} (m : Mod E) : Prop where
  beg : ∀ e p o, m.ok e → p < m.n e → m.busy e p = false → FitsO o →
    m.ok (m.beg e p o) ∧ m.n (m.beg e p o) = m.n e ∧ m.log (m.beg e p o) = m.log e ∧
    (m.seq (m.beg e p o) p = m.seq e p + 1 ∧ m.busy (m.beg e p o) p = true ∧ m.cur (m.beg e p o) p = o ∧ m.steps (m.beg e p o) p = 0) ∧
    ∀ q, q < m.n e → q ≠ p → m.seq (m.beg e p o) q = m.seq e q ∧ m.busy (m.beg e p o) q = m.busy e q ∧ (m.busy e q = true → m.cur (m.beg e p o) q = m.cur e q) ∧ m.steps (m.beg e p o) q = m.steps e q
  go : ∀ e p, m.ok e → p < m.n e → m.busy e p = true →
    m.ok (m.go e p) ∧ m.n (m.go e p) = m.n e ∧ m.steps (m.go e p) p = m.steps e p + 1 ∧
    ∀ q, q < m.n e → m.seq (m.go e p) q = m.seq e q ∧ (m.busy e q = true → m.cur (m.go e p) q = m.cur e q) ∧ (q ≠ p → m.busy (m.go e p) q = m.busy e q ∧ m.steps (m.go e p) q = m.steps e q)
  log : ∀ e p, m.ok e → p < m.n e → m.busy e p = true → ∃ new, m.log (m.go e p) = m.log e ++ new ∧
    (∀ r ∈ new, ∃ q, q < m.n e ∧ m.busy e q = true ∧ r.proc = q ∧ r.seq = m.seq e q ∧ r.op = m.cur e q ∧ ¬ Stands (m.log e) q (m.seq e q)) ∧ new.Pairwise fun r s => ¬ TwinR r s
  done : ∀ e p, m.ok e → p < m.n e → m.busy e p = true → m.busy (m.go e p) p = false → ∃ r ∈ m.log (m.go e p), r.proc = p ∧ r.seq = m.seq e p ∧ r.resp = m.resp (m.go e p) p

/-- One of a script. -/
structure EvP where
  kind : Int
  p : Int
  op : Opn

/-- An operation of a history. -/
structure Cal where
  p : Int
  seq : Int
  from_ : Int
  to_ : Int
  resp : Int
  op : Opn

def Mod.has {E : Type} (m : Mod E) (e : E) (p : Int) : Prop := 0 ≤ p ∧ p < m.n e

instance {E : Type} (m : Mod E) (e : E) (p : Int) : Decidable (m.has e p) := by unfold Mod.has; infer_instance

def Mod.isBusy {E : Type} (m : Mod E) (e : E) (p : Int) : Bool := decide (m.has e p) && m.busy e p.toNat

/-- The call Invoke. -/
def Mod.invoke {E : Type} (m : Mod E) (e : E) (p : Int) (o : Opn) : E × Int :=
  if ¬ m.has e p ∨ ¬ FitsO o then (e, 1) else if m.isBusy e p = true then (e, 14) else (m.beg e p.toNat o, 0)

/-- The call Step. -/
def Mod.step {E : Type} (m : Mod E) (e : E) (p : Int) : E × Int × Bool :=
  if m.isBusy e p = true then
    if m.isBusy (m.go e p.toNat) p = true then (m.go e p.toNat, 0, false) else (m.go e p.toNat, m.resp (m.go e p.toNat) p.toNat, true)
  else (e, 0, false)

structure RunS (E : Type) where
  e : E
  many : List Int
  opn : List Int
  out : List Cal

def noCal : Cal := ⟨0, 0, 0, 0, 0, ⟨0, 0, 0⟩⟩

/-- One of a script, in the statements' run. -/
def runStep {E : Type} (m : Mod E) (n : Nat) (i : Int) (v : EvP) (R : RunS E) : RunS E :=
  if v.p < 0 ∨ (n : Int) ≤ v.p then R
  else if v.kind = 0 then
    if (m.invoke R.e v.p v.op).2 = 0 then
      ⟨(m.invoke R.e v.p v.op).1, R.many.set v.p.toNat (R.many.getD v.p.toNat 0 + 1), R.opn.set v.p.toNat (R.out.length : Int), R.out ++ [⟨v.p, R.many.getD v.p.toNat 0 + 1, i, -1, 0, v.op⟩]⟩
    else R
  else if v.kind = 1 then
    if (m.step R.e v.p).2.2 = true then
      { R with e := (m.step R.e v.p).1, out := R.out.set (R.opn.getD v.p.toNat 0).toNat { R.out.getD (R.opn.getD v.p.toNat 0).toNat noCal with to_ := i, resp := (m.step R.e v.p).2.1 } }
    else { R with e := (m.step R.e v.p).1 }
  else R

def runL {E : Type} (m : Mod E) (n : Nat) : Nat → List EvP → RunS E → RunS E
  | _, [], R => R
  | i, v :: l, R => runL m n (i + 1) l (runStep m n (i : Int) v R)

theorem runL_snoc {E : Type} (m : Mod E) (n : Nat) : ∀ (l : List EvP) (i : Nat) (R : RunS E) (v : EvP), runL m n i (l ++ [v]) R = runStep m n ((i + l.length : Nat) : Int) v (runL m n i l R)
  | [], i, R, v => rfl
  | u :: l, i, R, v => by
    rw [List.cons_append, runL, runL_snoc m n l (i + 1), runL, List.length_cons]
    congr 2
    omega

def MatchC (r : Rec) (c : Cal) : Prop := r.proc = c.p ∧ r.seq = c.seq

instance (r : Rec) (c : Cal) : Decidable (MatchC r c) := by unfold MatchC; infer_instance

/-- What is true of a history, whatever steps there were. -/
structure HInv {E : Type} (m : Mod E) (n : Nat) (i : Int) (R : RunS E) : Prop where
  ok : m.ok R.e
  hn : m.n R.e = n
  lm : R.many.length = n
  lo : R.opn.length = n
  many : ∀ p, p < n → R.many.getD p 0 = m.seq R.e p
  mine : ∀ c : Cal, c ∈ R.out → 0 ≤ c.p ∧ c.p < n ∧ 1 ≤ c.seq ∧ c.seq ≤ m.seq R.e c.p.toNat ∧ c.from_ < i ∧ c.to_ < i
  uniq : R.out.Pairwise fun c d : Cal => ¬ (c.p = d.p ∧ c.seq = d.seq)
  cur : ∀ p, p < n → m.busy R.e p = true → ∃ k c, R.opn.getD p 0 = ((k : Nat) : Int) ∧ R.out[k]? = some c ∧ c.p = p ∧ c.seq = m.seq R.e p ∧ c.to_ = -1 ∧ c.op = m.cur R.e p
  done : ∀ c ∈ R.out, 0 ≤ c.to_ → ∃ r ∈ m.log R.e, MatchC r c ∧ r.resp = c.resp
  known : ∀ r ∈ m.log R.e, ∃ c ∈ R.out, MatchC r c ∧ r.op = c.op
  once : (m.log R.e).Pairwise fun r s => ¬ TwinR r s
  order : ∀ c ∈ R.out, ∀ d ∈ R.out, 0 ≤ c.to_ → c.to_ < d.from_ → ∀ (a b : Nat) (r s : Rec), (m.log R.e)[a]? = some r → (m.log R.e)[b]? = some s → MatchC r d → MatchC s c → b < a

theorem pair_same {α : Type} {R : α → α → Prop} (hs : ∀ a b, R a b → R b a) {l : List α} (h : l.Pairwise R) {i j : Nat} {a b : α} (hi : l[i]? = some a) (hj : l[j]? = some b) (hn : ¬ R a b) : i = j := by
  obtain ⟨h1, h2⟩ := List.getElem?_eq_some_iff.1 hi
  obtain ⟨h3, h4⟩ := List.getElem?_eq_some_iff.1 hj
  rcases Nat.lt_trichotomy i j with c | c | c
  · exact absurd (h2 ▸ h4 ▸ List.pairwise_iff_getElem.1 h i j h1 h3 c) hn
  · exact c
  · exact absurd (hs _ _ (h2 ▸ h4 ▸ List.pairwise_iff_getElem.1 h j i h3 h1 c)) hn

theorem twin_symm (a b : Rec) (h : ¬ TwinR a b) : ¬ TwinR b a := fun k => h ⟨k.1.symm, k.2.symm⟩

theorem cal_symm (a b : Cal) (h : ¬ (a.p = b.p ∧ a.seq = b.seq)) : ¬ (b.p = a.p ∧ b.seq = a.seq) := fun k => h ⟨k.1.symm, k.2.symm⟩

theorem getD_set_self {l : List Int} {k : Nat} {x : Int} (h : k < l.length) : (l.set k x).getD k 0 = x := by simp [List.getD, h]

theorem getD_set_ne {l : List Int} {k j : Nat} {x : Int} (h : j ≠ k) : (l.set k x).getD j 0 = l.getD j 0 := by simp [List.getD, Ne.symm h]

theorem HInv.later {E : Type} {m : Mod E} {n : Nat} {i i' : Int} {R : RunS E} (h : HInv m n i R) (hi : i ≤ i') : HInv m n i' R :=
  ⟨h.ok, h.hn, h.lm, h.lo, h.many, fun c hc => by have := h.mine c hc; omega, h.uniq, h.cur, h.done, h.known, h.once, h.order⟩

theorem HInv.begin {E : Type} {m : Mod E} (M : ModOk m) {n : Nat} {i : Int} {R : RunS E} (h : HInv m n i R) (h0 : 0 ≤ i) (p : Nat) (hp : p < n) (o : Opn) (hb : m.busy R.e p = false) (hf : FitsO o) :
    HInv m n (i + 1) ⟨m.beg R.e p o, R.many.set p (R.many.getD p 0 + 1), R.opn.set p (R.out.length : Int), R.out ++ [⟨(p : Int), R.many.getD p 0 + 1, i, -1, 0, o⟩]⟩ := by
  obtain ⟨b1, b2, b3, ⟨b4, b5, b6, -⟩, b7⟩ := M.beg R.e p o h.ok (by rw [h.hn]; exact hp) hb hf
  have hm := h.many p hp
  have b8 : ∀ q, q < n → q ≠ p → m.seq (m.beg R.e p o) q = m.seq R.e q ∧ m.busy (m.beg R.e p o) q = m.busy R.e q ∧ (m.busy R.e q = true → m.cur (m.beg R.e p o) q = m.cur R.e q) := fun q hq hn => by
    have := b7 q (by rw [h.hn]; exact hq) hn
    exact ⟨this.1, this.2.1, this.2.2.1⟩
  have hseq : ∀ q, q < n → m.seq R.e q ≤ m.seq (m.beg R.e p o) q := fun q hq => by
    by_cases a : q = p
    · subst a; omega
    · rw [(b8 q hq a).1]; exact Nat.le_refl _
  have hnew : ∀ c ∈ R.out, ¬ (c.p = (p : Int) ∧ c.seq = R.many.getD p 0 + 1) := fun c hc a => by
    have := h.mine c hc
    have e : c.p.toNat = p := by omega
    rw [e] at this
    omega
  have hnolog : ∀ r ∈ m.log R.e, ¬ (r.proc = (p : Int) ∧ r.seq = R.many.getD p 0 + 1) := fun r hr a => by
    obtain ⟨c, hc, hm, _⟩ := h.known r hr
    exact hnew c hc ⟨by rw [← hm.1]; exact a.1, by rw [← hm.2]; exact a.2⟩
  refine ⟨b1, by rw [b2]; exact h.hn, by simp [h.lm], by simp [h.lo], ?_, ?_, ?_, ?_, ?_, ?_, ?_, ?_⟩
  · intro q hq
    dsimp only
    by_cases a : q = p
    · subst a
      rw [getD_set_self (by rw [h.lm]; exact hq), b4, hm]
      omega
    · rw [getD_set_ne a, (b8 q hq a).1]
      exact h.many q hq
  · intro c hc
    dsimp only at hc ⊢
    rcases List.mem_append.1 hc with hc | hc
    · have := h.mine c hc
      have := hseq c.p.toNat (by omega)
      omega
    · obtain rfl := List.mem_singleton.1 hc
      dsimp only
      have e : ((p : Int)).toNat = p := by omega
      rw [e, b4, hm]
      omega
  · dsimp only
    rw [List.pairwise_append]
    refine ⟨h.uniq, List.pairwise_singleton _ _, fun c hc d hd => ?_⟩
    obtain rfl := List.mem_singleton.1 hd
    exact hnew c hc
  · intro q hq hbq
    dsimp only at hbq ⊢
    by_cases a : q = p
    · subst a
      refine ⟨R.out.length, ⟨(q : Int), R.many.getD q 0 + 1, i, -1, 0, o⟩, getD_set_self (by rw [h.lo]; exact hq), by simp, rfl, ?_, rfl, b6.symm⟩
      dsimp only
      rw [b4, hm]
      omega
    · obtain ⟨c1, c2, c3⟩ := b8 q hq a
      rw [c2] at hbq
      obtain ⟨k, c, d1, d2, d3, d4, d5, d6⟩ := h.cur q hq hbq
      refine ⟨k, c, by rw [getD_set_ne a]; exact d1, ?_, d3, by rw [c1]; exact d4, d5, by rw [c3 hbq]; exact d6⟩
      rw [List.getElem?_append_left (List.getElem?_eq_some_iff.1 d2).1]
      exact d2
  · intro c hc h1
    dsimp only at hc ⊢
    rw [b3]
    rcases List.mem_append.1 hc with hc | hc
    · exact h.done c hc h1
    · obtain rfl := List.mem_singleton.1 hc
      dsimp only at h1
      omega
  · intro r hr
    dsimp only at hr ⊢
    rw [b3] at hr
    obtain ⟨c, hc, hm⟩ := h.known r hr
    exact ⟨c, List.mem_append_left _ hc, hm⟩
  · dsimp only
    rw [b3]
    exact h.once
  · intro c hc d hd h1 h2 a b r s ha hb' hr hs
    dsimp only at hc hd ha hb'
    rw [b3] at ha hb'
    rcases List.mem_append.1 hc with hc | hc
    · rcases List.mem_append.1 hd with hd | hd
      · exact h.order c hc d hd h1 h2 a b r s ha hb' hr hs
      · obtain rfl := List.mem_singleton.1 hd
        exact absurd hr (hnolog r (List.mem_of_getElem? ha))
    · obtain rfl := List.mem_singleton.1 hc
      dsimp only at h1
      omega

/-- What a step does to a history, ahead of telling whether it is done. -/
theorem HInv.go {E : Type} {m : Mod E} (M : ModOk m) {n : Nat} {i : Int} {R : RunS E} (h : HInv m n i R) (p : Nat) (hp : p < n) (hb : m.busy R.e p = true) (out' : List Cal)
    (ho : out' = R.out ∧ m.busy (m.go R.e p) p = true ∨ ∃ k c, R.opn.getD p 0 = ((k : Nat) : Int) ∧ R.out[k]? = some c ∧ out' = R.out.set k { c with to_ := i, resp := m.resp (m.go R.e p) p } ∧ m.busy (m.go R.e p) p = false) :
    HInv m n (i + 1) ⟨m.go R.e p, R.many, R.opn, out'⟩ := by
  obtain ⟨g1, g2, -, g3⟩ := M.go R.e p h.ok (by rw [h.hn]; exact hp) hb
  obtain ⟨new, l1, l2, l3⟩ := M.log R.e p h.ok (by rw [h.hn]; exact hp) hb
  have hdone := M.done R.e p h.ok (by rw [h.hn]; exact hp) hb
  rw [h.hn] at g3 l2
  obtain ⟨k0, c0, x1, x2, x3, x4, x5, x6⟩ := h.cur p hp hb
  have hk0 := (List.getElem?_eq_some_iff.1 x2).1
  -- what of a call stays, whoever it is
  have hcal : ∀ c ∈ out', ∃ c' ∈ R.out, c'.p = c.p ∧ c'.seq = c.seq ∧ c'.from_ = c.from_ ∧ c'.op = c.op ∧ (c.to_ = c'.to_ ∧ c.resp = c'.resp ∨ c.to_ = i ∧ c.p = p ∧ c.seq = m.seq R.e p ∧ c.resp = m.resp (m.go R.e p) p ∧ m.busy (m.go R.e p) p = false) := by
    intro c hc
    rcases ho with ⟨rfl, _⟩ | ⟨k, c1, y1, y2, rfl, y3⟩
    · exact ⟨c, hc, rfl, rfl, rfl, rfl, .inl ⟨rfl, rfl⟩⟩
    · have : k = k0 := by omega
      subst this
      obtain rfl : c0 = c1 := by rw [x2] at y2; exact Option.some.inj y2
      rcases List.mem_or_eq_of_mem_set hc with hc | rfl
      · exact ⟨c, hc, rfl, rfl, rfl, rfl, .inl ⟨rfl, rfl⟩⟩
      · exact ⟨c0, List.mem_of_getElem? x2, rfl, rfl, rfl, rfl, .inr ⟨rfl, x3, x4, rfl, y3⟩⟩
  have hcal' : ∀ c ∈ R.out, ∃ c' ∈ out', c'.p = c.p ∧ c'.seq = c.seq ∧ c'.op = c.op := by
    intro c hc
    rcases ho with ⟨rfl, _⟩ | ⟨k, c1, y1, y2, rfl, y3⟩
    · exact ⟨c, hc, rfl, rfl, rfl⟩
    · obtain ⟨j, hj, rfl⟩ := List.getElem_of_mem hc
      by_cases a : j = k
      · subst a
        rw [List.getElem?_eq_getElem hj] at y2
        obtain rfl := Option.some.inj y2
        exact ⟨_, List.mem_of_getElem? (List.getElem?_set_self hj), rfl, rfl, rfl⟩
      · exact ⟨R.out[j], List.mem_of_getElem? (i := j) (by rw [List.getElem?_set_ne (Ne.symm a)]; exact List.getElem?_eq_getElem hj), rfl, rfl, rfl⟩
  have once' : (m.log (m.go R.e p)).Pairwise fun r s => ¬ TwinR r s := by
    rw [l1, List.pairwise_append]
    refine ⟨h.once, l3, fun r hr s hs a => ?_⟩
    obtain ⟨q, -, -, q1, q2, -, q3⟩ := l2 s hs
    exact q3 ⟨r, hr, by rw [a.1, q1], by rw [a.2, q2]⟩
  refine ⟨g1, by rw [g2]; exact h.hn, h.lm, h.lo, fun q hq => by rw [(g3 q hq).1]; exact h.many q hq, ?_, ?_, ?_, ?_, ?_, once', ?_⟩
  · intro c hc
    obtain ⟨c', hc', e1, e2, e3, e4, e5⟩ := hcal c hc
    have hm := h.mine c' hc'
    rw [e1, e2, e3] at hm
    refine ⟨hm.1, hm.2.1, hm.2.2.1, by rw [(g3 c.p.toNat (by omega)).1]; exact hm.2.2.2.1, by omega, ?_⟩
    rcases e5 with e5 | e5 <;> omega
  · dsimp only
    rcases ho with ⟨rfl, _⟩ | ⟨k, c1, y1, y2, rfl, y3⟩
    · exact h.uniq
    · rw [List.pairwise_iff_getElem]
      have key : ∀ j (hj : j < (R.out.set k { c1 with to_ := i, resp := m.resp (m.go R.e p) p }).length), ∃ hj' : j < R.out.length, (R.out.set k { c1 with to_ := i, resp := m.resp (m.go R.e p) p })[j].p = R.out[j].p ∧ (R.out.set k { c1 with to_ := i, resp := m.resp (m.go R.e p) p })[j].seq = R.out[j].seq := by
        intro j hj
        have hj' : j < R.out.length := by simpa using hj
        refine ⟨hj', ?_⟩
        rw [List.getElem_set]
        split
        · rename_i a
          subst a
          rw [List.getElem?_eq_getElem hj'] at y2
          obtain rfl := Option.some.inj y2
          exact ⟨rfl, rfl⟩
        · exact ⟨rfl, rfl⟩
      intro a b ha hb' hab
      obtain ⟨ha1, ha2, ha3⟩ := key a ha
      obtain ⟨hb1, hb2, hb3⟩ := key b hb'
      rw [ha2, ha3, hb2, hb3]
      exact List.pairwise_iff_getElem.1 h.uniq a b ha1 hb1 hab
  · intro q hq hbq
    dsimp only at hbq ⊢
    have hbq' : m.busy R.e q = true := by
      by_cases a : q = p
      · subst a; exact hb
      · rw [← ((g3 q hq).2.2 a).1]; exact hbq
    obtain ⟨k, c, d1, d2, d3, d4, d5, d6⟩ := h.cur q hq hbq'
    refine ⟨k, c, d1, ?_, d3, by rw [(g3 q hq).1]; exact d4, d5, by rw [(g3 q hq).2.1 hbq']; exact d6⟩
    rcases ho with ⟨rfl, _⟩ | ⟨k1, c1, y1, y2, rfl, y3⟩
    · exact d2
    · have hqp : q ≠ p := by
        rintro rfl
        rw [y3] at hbq
        exact absurd hbq (by decide)
      rw [List.getElem?_set_ne]
      · exact d2
      · rintro rfl
        rw [y2] at d2
        obtain rfl := Option.some.inj d2
        have : k0 = k1 := by omega
        subst this
        rw [x2] at y2
        obtain rfl := Option.some.inj y2
        omega
  · intro c hc h1
    dsimp only
    obtain ⟨c', hc', e1, e2, e3, e4, e5⟩ := hcal c hc
    rcases e5 with ⟨e5, e6⟩ | ⟨e5, e6, e7, e8, e9⟩
    · obtain ⟨r, hr, hm, hres⟩ := h.done c' hc' (by omega)
      exact ⟨r, by rw [l1]; exact List.mem_append_left _ hr, ⟨by rw [hm.1, e1], by rw [hm.2, e2]⟩, by rw [hres, e6]⟩
    · obtain ⟨r, hr, r1, r2, r3⟩ := hdone e9
      exact ⟨r, hr, ⟨by rw [r1, e6], by rw [r2, e7]⟩, by rw [r3, e8]⟩
  · intro r hr
    dsimp only at hr ⊢
    rw [l1] at hr
    rcases List.mem_append.1 hr with hr | hr
    · obtain ⟨c, hc, hm, hop⟩ := h.known r hr
      obtain ⟨c', hc', e1, e2, e3⟩ := hcal' c hc
      exact ⟨c', hc', ⟨by rw [hm.1, e1], by rw [hm.2, e2]⟩, by rw [hop, e3]⟩
    · obtain ⟨q, hq, hbq, q1, q2, q3, _⟩ := l2 r hr
      obtain ⟨k, c, d1, d2, d3, d4, d5, d6⟩ := h.cur q hq hbq
      obtain ⟨c', hc', e1, e2, e3⟩ := hcal' c (List.mem_of_getElem? d2)
      exact ⟨c', hc', ⟨by rw [q1, e1, d3], by rw [q2, e2, d4]⟩, by rw [q3, e3, d6]⟩
  · intro c hc d hd h1 h2 a b r s ha hb' hr hs
    dsimp only at ha hb'
    obtain ⟨c', hc', e1, e2, e3, e4, e5⟩ := hcal c hc
    obtain ⟨d', hd', f1, f2, f3, f4, f5⟩ := hcal d hd
    have hfrom := (h.mine d' hd').2.2.2.2.1
    rcases e5 with ⟨e5, e6⟩ | ⟨e5, _⟩
    · have hs' : MatchC s c' := ⟨by rw [hs.1, e1], by rw [hs.2, e2]⟩
      obtain ⟨t, ht, hmt, _⟩ := h.done c' hc' (by omega)
      obtain ⟨b', hb1, rfl⟩ := List.getElem_of_mem ht
      have hb2 : (m.log (m.go R.e p))[b']? = some (m.log R.e)[b'] := by rw [l1, List.getElem?_append_left hb1]; exact List.getElem?_eq_getElem hb1
      have hbb : b = b' := pair_same twin_symm once' hb' hb2 fun k => k ⟨by rw [hs'.1, hmt.1], by rw [hs'.2, hmt.2]⟩
      subst hbb
      by_cases hal : a < (m.log R.e).length
      · rw [l1, List.getElem?_append_left hal] at ha
        rw [l1, List.getElem?_append_left hb1] at hb'
        exact h.order c' hc' d' hd' (by omega) (by omega) a b r s ha hb' ⟨by rw [hr.1, f1], by rw [hr.2, f2]⟩ hs'
      · omega
    · omega

end Go.Proofs.Ytedfacbngefhnaa

/- What a step of the engine that copies adds to its log, and when an operation is done. -/
namespace Go.Proofs.Ytedfacbngefhnaa

theorem go_inv {e : Eg} {g : Nat → Nat} {p : Nat} (h : Inv e g) (hp : p < e.n) : ∃ g', Inv (goE e p) g' := by
  unfold goE
  split <;> rename_i hx
  · exact ⟨_, h⟩
  · exact ⟨_, announce_inv h hp hx⟩
  · exact ⟨_, copy_inv h hp hx⟩
  · exact ⟨_, readAnn_inv h hp hx⟩
  · rcases swap_inv h hp hx with a | a
    · exact ⟨_, a.2⟩
    · exact ⟨_, a.2.2⟩

/-- What a step adds to the log: operations that were begun, are not done, and did not stand there. -/
theorem go_log {e : Eg} {g : Nat → Nat} {p : Nat} (h : Inv e g) (hp : p < e.n) :
    ∃ new, (goE e p).log = e.log ++ new ∧ (∀ r ∈ new, ∃ q : Nat, q < e.n ∧ (e.ps q).nx ≠ .rest ∧ r.proc = q ∧ r.seq = (e.ps q).seq ∧ r.op = (e.ps q).op ∧ ¬ Stands e.log q (e.ps q).seq) ∧ new.Pairwise fun r s => ¬ TwinR r s := by
  have none : (goE e p).log = e.log → ∃ new, (goE e p).log = e.log ++ new ∧ (∀ r ∈ new, ∃ q : Nat, q < e.n ∧ (e.ps q).nx ≠ .rest ∧ r.proc = q ∧ r.seq = (e.ps q).seq ∧ r.op = (e.ps q).op ∧ ¬ Stands e.log q (e.ps q).seq) ∧ new.Pairwise fun r s => ¬ TwinR r s :=
    fun a => ⟨[], by rw [a, List.append_nil], nofun, List.Pairwise.nil⟩
  revert none
  unfold goE
  split <;> rename_i hx <;> intro none
  · exact none rfl
  · exact none rfl
  · refine none ?_
    unfold copyE
    split <;> rfl
  · exact none rfl
  · rcases swap_inv h hp hx with a | ⟨a1, C, _⟩
    · refine none ?_
      unfold swapE
      rw [if_neg a.1]
    · refine ⟨numb e.log.length (e.ps p).fresh, ?_, fun r hr => ?_, ?_⟩
      · unfold swapE
        rw [if_pos a1]
      · obtain ⟨s, hs, h1, h2, h3, _⟩ := numb_mem hr
        obtain ⟨b, h5, h6, h7⟩ := C.recs s hs
        refine ⟨b, h6, h7.opn.1, by rw [h1]; exact h7.proc, by rw [h2]; exact h7.seq, by rw [h3]; exact h7.op, ?_⟩
        rintro ⟨t, ht, h8, h9⟩
        have := (h.P b h6).log t ht h8
        have := h7.opn.2.2
        omega
      · exact (numb_pair _ C.pair).imp fun h t => h t.1

/-- Of which what came is told, that stands in the log with it. -/
theorem go_done {e : Eg} {g : Nat → Nat} {p : Nat} (h : Inv e g) (hp : p < e.n) (hb : (e.ps p).nx ≠ .rest) (hd : ((goE e p).ps p).nx = .rest) :
    ∃ r ∈ (goE e p).log, r.proc = p ∧ r.seq = (e.ps p).seq ∧ r.resp = ((goE e p).ps p).resp := by
  have P := h.P p hp
  revert hd
  unfold goE
  split <;> rename_i hx <;> intro hd
  · exact absurd hx hb
  · exact absurd hd (by unfold announceE; dsimp only; rw [putN_same]; nofun)
  · have A := P.ann hb (by rw [hx]; nofun)
    unfold copyE at hd ⊢
    split at hd
    · rename_i h0
      rw [if_pos h0]
      dsimp only
      rw [putN_same]
      dsimp only
      rcases P.recd with c | ⟨r, hr, h1, h2, h3⟩
      · omega
      · exact ⟨r, hr, h1, by omega, h3⟩
    · exact absurd hd (by dsimp only; rw [putN_same]; nofun)
  · exact absurd hd (by unfold readAnnE; dsimp only; rw [putN_same]; dsimp only; split <;> nofun)
  · rcases swap_inv h hp hx with a | ⟨a1, C, _⟩
    · unfold swapE at hd
      rw [if_neg a.1] at hd
      exact absurd hd (by dsimp only; rw [putN_same]; nofun)
    · have own := C.own (by have := (h.M p hp (.inr hx)).all hx; omega)
      have less := C.less
      unfold swapE
      rw [if_pos a1]
      dsimp only
      rw [putN_same]
      dsimp only
      rcases C.each p hp with ⟨s, hs, hpr⟩ | c
      · obtain ⟨r, hr, h1, h2, h3, h4⟩ := mem_numb (k := e.log.length) hs
        obtain ⟨b, h5, h6, h7⟩ := C.recs s hs
        have := h7.proc
        have : b = p := by omega
        subst this
        exact ⟨r, List.mem_append_right _ hr, by rw [h1]; exact hpr, by rw [h2]; exact h7.seq, by rw [h4]; exact h7.resp⟩
      · rw [c] at own
        omega

/-- How many steps an operation takes. -/
theorem steps_bound {e : Eg} {g : Nat → Nat} {p : Nat} (h : Inv e g) (hp : p < e.n) : (e.ps p).began ≤ (e.ps p).did ∧ (e.ps p).did ≤ (e.ps p).began + 2 * e.n + 6 ∧ ((e.ps p).nx ≠ .rest → (e.ps p).did ≤ (e.ps p).began + 2 * e.n + 5) := by
  have S := h.S p hp
  have M := h.M p hp
  unfold InvS at S
  split at S <;> rename_i hx <;> rw [hx] at M ⊢
  · exact ⟨S.1, S.2, fun a => absurd rfl a⟩
  · exact ⟨by omega, by omega, fun _ => by omega⟩
  · exact ⟨by omega, by omega, fun _ => by omega⟩
  · have := (M (.inl rfl)).asked hx
    exact ⟨by omega, by omega, fun _ => by omega⟩
  · exact ⟨by omega, by omega, fun _ => by omega⟩

end Go.Proofs.Ytedfacbngefhnaa

/- What the statements say of histories, as mathematics. -/
namespace Go.Proofs.Ytedfacbngefhnaa

theorem Mod.has_nat {E : Type} (m : Mod E) {e : E} {p : Int} (h : m.has e p) : ∃ q : Nat, p = q ∧ p.toNat = q ∧ q < m.n e := by
  unfold Mod.has at h
  exact ⟨p.toNat, by omega, rfl, by omega⟩

theorem Mod.isBusy_nat {E : Type} (m : Mod E) {e : E} {q : Nat} (h : q < m.n e) : m.isBusy e (q : Int) = m.busy e q := by
  unfold Mod.isBusy
  rw [decide_eq_true (show m.has e (q : Int) from ⟨by omega, by omega⟩)]
  simp

theorem Mod.isBusy_has {E : Type} (m : Mod E) {e : E} {p : Int} (h : m.isBusy e p = true) : ∃ q : Nat, p = q ∧ p.toNat = q ∧ q < m.n e ∧ m.busy e q = true := by
  unfold Mod.isBusy at h
  rw [Bool.and_eq_true, decide_eq_true_iff] at h
  obtain ⟨q, h1, h2, h3⟩ := m.has_nat h.1
  exact ⟨q, h1, h2, h3, by rw [← h2]; exact h.2⟩

theorem Mod.invoke_ok {E : Type} (m : Mod E) {e : E} {p : Int} {o : Opn} (h : (m.invoke e p o).2 = 0) : ∃ q : Nat, p = q ∧ p.toNat = q ∧ q < m.n e ∧ m.busy e q = false ∧ FitsO o ∧ (m.invoke e p o).1 = m.beg e q o := by
  unfold Mod.invoke at h ⊢
  split at h
  · cases h
  · rename_i a
    split at h
    · cases h
    · rename_i b
      have hh : m.has e p := Classical.byContradiction fun c => a (.inl c)
      obtain ⟨q, h1, h2, h3⟩ := m.has_nat hh
      rw [if_neg a, if_neg b, h2]
      refine ⟨q, h1, rfl, h3, ?_, Classical.byContradiction fun c => a (.inr c), rfl⟩
      subst h1
      rw [m.isBusy_nat h3] at b
      simpa using b

theorem Mod.invoke_not {E : Type} (m : Mod E) {e : E} {p : Int} {o : Opn} (h : (m.invoke e p o).2 ≠ 0) : (m.invoke e p o).1 = e := by
  unfold Mod.invoke at h ⊢
  split
  · rfl
  · rename_i a
    rw [if_neg a] at h
    split
    · rfl
    · rename_i b
      rw [if_neg b] at h
      exact absurd rfl h

theorem Mod.step_idle {E : Type} (m : Mod E) {e : E} {p : Int} (h : m.isBusy e p = false) : m.step e p = (e, 0, false) := by
  unfold Mod.step
  rw [h]
  simp

theorem Mod.step_busy {E : Type} {m : Mod E} (M : ModOk m) {e : E} (ho : m.ok e) {p : Int} (h : m.isBusy e p = true) : ∃ q : Nat, p = q ∧ p.toNat = q ∧ q < m.n e ∧ m.busy e q = true ∧
    m.step e p = if m.busy (m.go e q) q = true then (m.go e q, 0, false) else (m.go e q, m.resp (m.go e q) q, true) := by
  obtain ⟨q, h1, h2, h3, h4⟩ := m.isBusy_has h
  refine ⟨q, h1, h2, h3, h4, ?_⟩
  unfold Mod.step
  have hn := (M.go e q ho h3 h4).2.1
  rw [if_pos h, h2, h1, m.isBusy_nat (by rw [hn]; exact h3)]

theorem runStep_inv {E : Type} {m : Mod E} (M : ModOk m) {n : Nat} {i : Nat} {R : RunS E} (h : HInv m n (i : Int) R) (v : EvP) : HInv m n ((i + 1 : Nat) : Int) (runStep m n (i : Int) v R) := by
  have e1 : ((i + 1 : Nat) : Int) = (i : Int) + 1 := by omega
  rw [e1]
  unfold runStep
  split
  · exact h.later (by omega)
  · split
    · split
      · rename_i hk h0
        obtain ⟨q, h1, h2, h3, h4, h5, h6⟩ := m.invoke_ok h0
        rw [h6, h2, h1]
        rw [h.hn] at h3
        exact h.begin M (by omega) q h3 v.op h4 h5
      · exact h.later (by omega)
    · split
      · cases hb : m.isBusy R.e v.p with
        | false =>
          rw [m.step_idle hb]
          exact h.later (by omega)
        | true =>
          obtain ⟨q, h1, h2, h3, h4, h5⟩ := m.step_busy M h.ok hb
          rw [h.hn] at h3
          rw [h5, h2]
          by_cases a : m.busy (m.go R.e q) q = true
          · rw [if_pos a]
            exact h.go M q h3 h4 R.out (.inl ⟨rfl, a⟩)
          · rw [if_neg a]
            obtain ⟨k, c, d1, d2, _⟩ := h.cur q h3 h4
            refine h.go M q h3 h4 _ (.inr ⟨k, c, d1, d2, ?_, by simpa using a⟩)
            have e2 : (R.opn.getD q 0).toNat = k := by omega
            rw [e2]
            congr 1
            have e3 : R.out.getD k noCal = c := by simp [List.getD, d2]
            rw [e3]
      · exact h.later (by omega)

theorem runL_inv {E : Type} {m : Mod E} (M : ModOk m) {n : Nat} : ∀ (l : List EvP) (i : Nat) (R : RunS E), HInv m n (i : Int) R → HInv m n ((i + l.length : Nat) : Int) (runL m n i l R)
  | [], i, R, h => h
  | v :: l, i, R, h => by
    have := runL_inv M l (i + 1) _ (runStep_inv M h v)
    rw [runL, List.length_cons]
    have e : i + (l.length + 1) = i + 1 + l.length := by omega
    rw [e]
    exact this

/-- A history that has not begun. -/
structure Fresh {E : Type} (m : Mod E) (n : Nat) (e : E) : Prop where
  ok : m.ok e
  hn : m.n e = n
  seq : ∀ p, p < n → m.seq e p = 0
  busy : ∀ p, p < n → m.busy e p = false
  steps : ∀ p, p < n → m.steps e p = 0
  log : m.log e = []

def runS0 {E : Type} (n : Nat) (e : E) : RunS E := ⟨e, List.replicate n 0, List.replicate n 0, []⟩

theorem Fresh.inv {E : Type} {m : Mod E} {n : Nat} {e : E} (h : Fresh m n e) : HInv m n ((0 : Nat) : Int) (runS0 n e) := by
  refine ⟨h.ok, h.hn, by simp [runS0], by simp [runS0], fun p hp => ?_, nofun, List.Pairwise.nil, fun p hp hb => ?_, nofun, fun r hr => ?_, ?_, nofun⟩
  · show (List.replicate n (0 : Int)).getD p 0 = (m.seq e p : Int)
    rw [h.seq p hp]
    simp [List.getD, hp]
  · have : m.busy e p = true := hb
    rw [h.busy p hp] at this
    cases this
  · have hr' : r ∈ m.log e := hr
    rw [h.log] at hr'
    cases hr'
  · show (m.log e).Pairwise _
    rw [h.log]
    exact List.Pairwise.nil

/-- Where in a log an operation stands, among the first so many, and how often. -/
def atT (log : List Rec) (c : Cal) : Nat → Int × Int
  | 0 => (-1, 0)
  | i + 1 => if MatchC (log.getD i zeroR) c then ((i : Int), (atT log c i).2 + 1) else atT log c i

theorem atT_spec {log : List Rec} (h : log.Pairwise fun r s => ¬ TwinR r s) (c : Cal) : ∀ i, i ≤ log.length →
    (atT log c i = (-1, 0) ∧ ∀ (j : Nat) (r : Rec), j < i → log[j]? = some r → ¬ MatchC r c) ∨ ∃ (j : Nat) (r : Rec), j < i ∧ log[j]? = some r ∧ MatchC r c ∧ atT log c i = ((j : Int), 1)
  | 0, _ => .inl ⟨rfl, fun j r hj => by omega⟩
  | i + 1, hi => by
    have hr : log[i]? = some (log.getD i zeroR) := by simp [List.getD, show i < log.length by omega]
    rw [atT]
    by_cases a : MatchC (log.getD i zeroR) c
    · rw [if_pos a]
      right
      refine ⟨i, _, by omega, hr, a, ?_⟩
      rcases atT_spec h c i (by omega) with ⟨b1, b2⟩ | ⟨j, r, b1, b2, b3, b4⟩
      · rw [b1]
        rfl
      · exfalso
        have := pair_same twin_symm h b2 hr fun k => k ⟨by rw [b3.1, a.1], by rw [b3.2, a.2]⟩
        omega
    · rw [if_neg a]
      rcases atT_spec h c i (by omega) with ⟨b1, b2⟩ | ⟨j, r, b1, b2, b3, b4⟩
      · left
        refine ⟨b1, fun j r hj hjr => ?_⟩
        by_cases e : j = i
        · subst e
          rw [hr] at hjr
          obtain rfl := Option.some.inj hjr
          exact a
        · exact b2 j r (by omega) hjr
      · exact .inr ⟨j, r, by omega, b2, b3, b4⟩

theorem atT_range (log : List Rec) (c : Cal) : ∀ i, -1 ≤ (atT log c i).1 ∧ (atT log c i).1 < (i : Int) ∧ 0 ≤ (atT log c i).2 ∧ (atT log c i).2 ≤ (i : Int)
  | 0 => by simp [atT]
  | i + 1 => by
    have := atT_range log c i
    rw [atT]
    split
    · dsimp only; omega
    · omega

def atC (log : List Rec) (c : Cal) : Int × Int := atT log c log.length

/-- HerlihyOnce's, of one operation. -/
theorem HInv.one {E : Type} {m : Mod E} {n : Nat} {i : Int} {R : RunS E} (h : HInv m n i R) {c : Cal} (hc : c ∈ R.out) :
    ((atC (m.log R.e) c) = (-1, 0) ∧ c.to_ < 0) ∨ ∃ (j : Nat) (r : Rec), (m.log R.e)[j]? = some r ∧ MatchC r c ∧ atC (m.log R.e) c = ((j : Int), 1) ∧ r.op = c.op ∧ (0 ≤ c.to_ → r.resp = c.resp) := by
  rcases atT_spec h.once c (m.log R.e).length (Nat.le_refl _) with ⟨a, b⟩ | ⟨j, r, a1, a2, a3, a4⟩
  · left
    refine ⟨a, ?_⟩
    rcases Int.lt_or_le c.to_ 0 with d | d
    · exact d
    · obtain ⟨r, hr, hm, _⟩ := h.done c hc d
      obtain ⟨j, hj, rfl⟩ := List.getElem_of_mem hr
      exact absurd hm (b j _ hj (List.getElem?_eq_getElem hj))
  · right
    refine ⟨j, r, a2, a3, a4, ?_, fun d => ?_⟩
    · obtain ⟨c', hc', hm, hop⟩ := h.known r (List.mem_of_getElem? a2)
      obtain ⟨x, hx, rfl⟩ := List.getElem_of_mem hc
      obtain ⟨y, hy, rfl⟩ := List.getElem_of_mem hc'
      have := pair_same cal_symm h.uniq (List.getElem?_eq_getElem hx) (List.getElem?_eq_getElem hy) fun k => k ⟨by rw [← a3.1, hm.1], by rw [← a3.2, hm.2]⟩
      subst this
      exact hop
    · obtain ⟨r', hr', hm, hres⟩ := h.done c hc d
      obtain ⟨y, hy, rfl⟩ := List.getElem_of_mem hr'
      have := pair_same twin_symm h.once a2 (List.getElem?_eq_getElem hy) fun k => k ⟨by rw [a3.1, hm.1], by rw [a3.2, hm.2]⟩
      subst this
      rw [List.getElem?_eq_getElem hy] at a2
      obtain rfl := Option.some.inj a2
      exact hres

/-- HerlihyOrder's. -/
theorem HInv.ordered {E : Type} {m : Mod E} {n : Nat} {i : Int} {R : RunS E} (h : HInv m n i R) {c d : Cal} (hc : c ∈ R.out) (hd : d ∈ R.out) :
    ¬ (0 ≤ c.to_ ∧ c.to_ < d.from_ ∧ 0 ≤ (atC (m.log R.e) d).1 ∧ (atC (m.log R.e) d).1 < (atC (m.log R.e) c).1) := by
  rintro ⟨h1, h2, h3, h4⟩
  rcases h.one hd with ⟨a, _⟩ | ⟨x, r, a1, a2, a3, _⟩
  · rw [a] at h3; exact absurd h3 (by decide)
  · rcases h.one hc with ⟨b, _⟩ | ⟨y, s, b1, b2, b3, _⟩
    · rw [b, a3] at h4; dsimp only at h4; omega
    · rw [a3, b3] at h4
      dsimp only at h4
      have := h.order c hc d hd h1 h2 x y r s a1 b1 a2 b2
      omega

/-- How often the first so many operations stand in the log, together. -/
def allT (log : List Rec) (out : List Cal) : Nat → Int
  | 0 => 0
  | i + 1 => allT log out i + (atC log (out.getD i noCal)).2

theorem atT_count (log : List Rec) (c : Cal) : ∀ i, i ≤ log.length → (atT log c i).2 = ((log.take i).countP fun r => decide (MatchC r c) : Nat)
  | 0, _ => by simp [atT]
  | i + 1, hi => by
    have hr : log[i]? = some (log.getD i zeroR) := by simp [List.getD, show i < log.length by omega]
    rw [atT, List.take_add_one, hr, List.countP_append]
    have ih := atT_count log c i (by omega)
    generalize log.getD i zeroR = r
    by_cases a : MatchC r c
    · rw [if_pos a]
      simp [a, ih]
    · rw [if_neg a]
      simp [a, ih]

theorem atC_count (log : List Rec) (c : Cal) : (atC log c).2 = (log.countP fun r => decide (MatchC r c) : Nat) := by
  unfold atC
  rw [atT_count log c _ (Nat.le_refl _), List.take_length]

theorem allT_sum (log : List Rec) (out : List Cal) : ∀ i, i ≤ out.length → allT log out i = (((out.take i).map fun c => log.countP fun r => decide (MatchC r c)).sum : Nat)
  | 0, _ => by simp [allT]
  | i + 1, hi => by
    have hr : out[i]? = some (out.getD i noCal) := by simp [List.getD, show i < out.length by omega]
    rw [allT, allT_sum log out i (by omega), List.take_add_one, hr, atC_count]
    simp

theorem sum_add {α : Type} (f g : α → Nat) : ∀ l : List α, (l.map fun a => f a + g a).sum = (l.map f).sum + (l.map g).sum
  | [] => rfl
  | a :: l => by
    simp only [List.map_cons, List.sum_cons, sum_add f g l]
    omega

theorem sum_count {α : Type} (p : α → Bool) : ∀ l : List α, (l.map fun a => if p a = true then 1 else 0).sum = l.countP p
  | [] => rfl
  | a :: l => by
    simp only [List.map_cons, List.sum_cons, sum_count p l, List.countP_cons]
    omega

theorem sum_log (out : List Cal) : ∀ log : List Rec, (∀ r ∈ log, (out.countP fun c => decide (MatchC r c)) = 1) → (out.map fun c => log.countP fun r => decide (MatchC r c)).sum = log.length
  | [], _ => by
    have : ∀ l : List Cal, (l.map fun c => ([] : List Rec).countP fun r => decide (MatchC r c)).sum = 0 := by
      intro l
      induction l with
      | nil => rfl
      | cons a l ih => simpa using ih
    exact this out
  | r :: log, h => by
    have e : (fun c => (r :: log).countP fun r => decide (MatchC r c)) = fun c => (log.countP fun r => decide (MatchC r c)) + if decide (MatchC r c) = true then 1 else 0 := by
      funext c
      rw [List.countP_cons]
    rw [e, sum_add, sum_log out log fun s hs => h s (List.mem_cons_of_mem _ hs), sum_count, h r List.mem_cons_self, List.length_cons]

theorem count_one {α : Type} (p : α → Bool) : ∀ {l : List α}, l.Pairwise (fun a b => ¬ (p a = true ∧ p b = true)) → (∃ a ∈ l, p a = true) → l.countP p = 1
  | [], _, h => by obtain ⟨a, ha, _⟩ := h; cases ha
  | a :: l, hp, h => by
    rw [List.pairwise_cons] at hp
    by_cases b : p a = true
    · have h0 : l.countP p = 0 := by
        rw [List.countP_eq_zero]
        exact fun x hx c => hp.1 x hx ⟨b, c⟩
      rw [List.countP_cons, h0, if_pos b]
    · rw [List.countP_cons, if_neg b]
      refine count_one p hp.2 ?_
      obtain ⟨x, hx, hpx⟩ := h
      rcases List.mem_cons.1 hx with rfl | hx
      · exact absurd hpx b
      · exact ⟨x, hx, hpx⟩

/-- HerlihyOnce's sum. -/
theorem HInv.all {E : Type} {m : Mod E} {n : Nat} {i : Int} {R : RunS E} (h : HInv m n i R) : allT (m.log R.e) R.out R.out.length = ((m.log R.e).length : Nat) := by
  rw [allT_sum _ _ _ (Nat.le_refl _), List.take_length, sum_log]
  intro r hr
  refine count_one _ ?_ ?_
  · refine h.uniq.imp fun {a b} hab k => hab ?_
    have k1 := of_decide_eq_true k.1
    have k2 := of_decide_eq_true k.2
    exact ⟨by rw [← k1.1, k2.1], by rw [← k1.2, k2.2]⟩
  · obtain ⟨c, hc, hm, _⟩ := h.known r hr
    exact ⟨c, hc, decide_eq_true hm⟩

theorem allT_range (log : List Rec) (out : List Cal) : ∀ i, 0 ≤ allT log out i ∧ allT log out i ≤ (i : Int) * (log.length : Int)
  | 0 => by simp [allT]
  | i + 1 => by
    have h1 := allT_range log out i
    have h2 := atT_range log (out.getD i noCal) log.length
    rw [allT]
    unfold atC
    have e : ((i + 1 : Nat) : Int) * (log.length : Int) = (i : Int) * (log.length : Int) + (log.length : Int) := by
      rw [show ((i + 1 : Nat) : Int) = (i : Int) + 1 by omega, Int.add_mul, Int.one_mul]
    omega

/-- One of a script, without its history. -/
def evE {E : Type} (m : Mod E) (e : E) (v : EvP) : E := if v.kind = 0 then (m.invoke e v.p v.op).1 else if v.kind = 1 then (m.step e v.p).1 else e

/-- What a call may change. -/
theorem evE_grows {E : Type} {m : Mod E} (M : ModOk m) {e : E} (ho : m.ok e) (v : EvP) : m.ok (evE m e v) ∧ m.n (evE m e v) = m.n e ∧ m.log e <+: m.log (evE m e v) := by
  unfold evE
  split
  · by_cases a : (m.invoke e v.p v.op).2 = 0
    · obtain ⟨q, h1, h2, h3, h4, h5, h6⟩ := m.invoke_ok a
      obtain ⟨b1, b2, b3, _⟩ := M.beg e q v.op ho h3 h4 h5
      rw [h6]
      exact ⟨b1, b2, by rw [b3]; exact List.prefix_refl _⟩
    · rw [m.invoke_not a]
      exact ⟨ho, rfl, List.prefix_refl _⟩
  · split
    · cases hb : m.isBusy e v.p with
      | false =>
        rw [m.step_idle hb]
        exact ⟨ho, rfl, List.prefix_refl _⟩
      | true =>
        obtain ⟨q, h1, h2, h3, h4, h5⟩ := m.step_busy M ho hb
        obtain ⟨g1, g2, _⟩ := M.go e q ho h3 h4
        obtain ⟨new, l1, _⟩ := M.log e q ho h3 h4
        have e1 : (m.step e v.p).1 = m.go e q := by
          rw [h5]
          split <;> rfl
        rw [e1]
        exact ⟨g1, g2, new, l1.symm⟩
    · exact ⟨ho, rfl, List.prefix_refl _⟩

theorem prefix_take {α : Type} {a b : List α} (h : a <+: b) : b.take a.length = a := by
  obtain ⟨t, rfl⟩ := h
  simp

/-- Within how many steps an operation is done. -/
structure ModBd {E : Type} (m : Mod E) (bd : Nat → Nat) : Prop where
  most : ∀ e p, m.ok e → p < m.n e → m.steps e p ≤ bd (m.n e) ∧ (m.busy e p = true → m.steps e p < bd (m.n e))

def Mod.stepsOf {E : Type} (m : Mod E) (e : E) (p : Int) : Int := if m.has e p then (m.steps e p.toNat : Int) else 0

theorem Mod.stepsOf_nat {E : Type} (m : Mod E) {e : E} {q : Nat} (h : q < m.n e) : m.stepsOf e (q : Int) = m.steps e q := by
  unfold Mod.stepsOf
  rw [if_pos ⟨by omega, by omega⟩]
  simp

/-- What HerlihyBound's row holds the steps against. -/
def wasE {E : Type} (m : Mod E) (e : E) (v : EvP) : Int :=
  if v.kind = 0 then (if (m.invoke e v.p v.op).2 = 0 then 0 else m.stepsOf e v.p)
  else if v.kind = 1 then (if m.isBusy e v.p = true then m.stepsOf e v.p + 1 else m.stepsOf e v.p) else m.stepsOf e v.p

theorem evE_steps {E : Type} {m : Mod E} (M : ModOk m) {e : E} (ho : m.ok e) (v : EvP) : m.stepsOf (evE m e v) v.p = wasE m e v := by
  unfold evE wasE
  split
  · by_cases a : (m.invoke e v.p v.op).2 = 0
    · obtain ⟨q, h1, h2, h3, h4, h5, h6⟩ := m.invoke_ok a
      obtain ⟨b1, b2, b3, b4, b5⟩ := M.beg e q v.op ho h3 h4 h5
      rw [if_pos a, h6, h1, m.stepsOf_nat (by rw [b2]; exact h3), b4.2.2.2]
      rfl
    · rw [if_neg a, m.invoke_not a]
  · split
    · cases hb : m.isBusy e v.p with
      | false =>
        rw [m.step_idle hb]
        simp
      | true =>
        obtain ⟨q, h1, h2, h3, h4, h5⟩ := m.step_busy M ho hb
        obtain ⟨g1, g2, g3, _⟩ := M.go e q ho h3 h4
        have e1 : (m.step e v.p).1 = m.go e q := by
          rw [h5]
          split <;> rfl
        rw [if_pos rfl, e1, h1, m.stepsOf_nat (by rw [g2]; exact h3), m.stepsOf_nat h3, g3]
        omega
    · rfl

theorem stepsOf_most {E : Type} {m : Mod E} {bd : Nat → Nat} (D : ModBd m bd) {e : E} (ho : m.ok e) (p : Int) : 0 ≤ m.stepsOf e p ∧ m.stepsOf e p ≤ bd (m.n e) ∧ (m.isBusy e p = true → m.stepsOf e p < bd (m.n e)) := by
  by_cases a : m.has e p
  · obtain ⟨q, h1, h2, h3⟩ := m.has_nat a
    have := D.most e q ho h3
    rw [h1, m.stepsOf_nat h3, m.isBusy_nat h3]
    exact ⟨by omega, by omega, fun b => by have := this.2 b; omega⟩
  · unfold Mod.stepsOf Mod.isBusy
    rw [if_neg a, decide_eq_false a]
    exact ⟨by omega, by omega, fun b => by simp at b⟩

end Go.Proofs.Ytedfacbngefhnaa

