import Derived.Test.YtiofhmlkgieclaaPack1
/- Codec: operations and states as bytes, over plain lists, and what follows. -/
namespace Go.Proofs.Ytiofhmlkgieclaa

theorem zig_lt {n : Int} (h : I64 n) : Lib.zigzag n < 18446744073709551616 := by
  obtain ⟨h0, h1⟩ := h
  unfold Lib.zigzag
  split <;> omega

theorem zag_i64 {u : Nat} (h : u < 18446744073709551616) : I64 (zag u) := zag_range u h

/-- A number that is cut off is none. -/
theorem dec64_cut (u c : Nat) (hu : u < 18446744073709551616) (hc : c < (Lib.uvarint u).length) : dec64 ((Lib.uvarint u).take c) = (0, 0) := by
  have hlen : (Lib.uvarint u).length ≤ 10 := Lib.uvarint_length 9 u (Nat.lt_of_lt_of_le hu (by decide))
  have h : dec 10 ((Lib.uvarint u).take c) = none := by
    apply dec_miss
    intro j hj hjl
    have hjc : j < c := by simp at hjl; omega
    have e : ((Lib.uvarint u).take c).getD j 0 = (Lib.uvarint u).getD j 0 := by
      simp [List.getD, hjc]
    rw [e]
    exact uvarint_open 10 u j hlen (by omega)
  unfold dec64
  rw [h]

theorem dec62_cut (u c : Nat) (hu : u < 4611686018427387904) (hc : c < (Lib.uvarint u).length) : dec62 ((Lib.uvarint u).take c) = (0, 0) := by
  unfold dec62
  rw [dec64_cut u c (by omega) hc]
  rfl

theorem dec62_le (l : List UInt8) : (dec62 l).2 ≤ l.length := by
  rcases dec62_cases l with h | h
  · rw [h]; exact Nat.zero_le _
  · exact h.2.2.1

/-- An operation's bytes. -/
def putOpL (o : Opn) : List UInt8 := Lib.uvarint o.code.toNat ++ (Lib.uvarint (Lib.zigzag o.a) ++ Lib.uvarint (Lib.zigzag o.b))

/-- The operation that bytes begin with, and how many they are. -/
def getOpL (l : List UInt8) : Opn × Nat :=
  if (dec62 l).2 = 0 ∨ (dec64 (l.drop (dec62 l).2)).2 = 0 ∨ (dec64 (l.drop ((dec62 l).2 + (dec64 (l.drop (dec62 l).2)).2))).2 = 0 ∨ ¬ FitsO ⟨((dec62 l).1 : Int), zag (dec64 (l.drop (dec62 l).2)).1, zag (dec64 (l.drop ((dec62 l).2 + (dec64 (l.drop (dec62 l).2)).2))).1⟩ then (⟨0, 0, 0⟩, 0)
  else (⟨((dec62 l).1 : Int), zag (dec64 (l.drop (dec62 l).2)).1, zag (dec64 (l.drop ((dec62 l).2 + (dec64 (l.drop (dec62 l).2)).2))).1⟩, (dec62 l).2 + (dec64 (l.drop (dec62 l).2)).2 + (dec64 (l.drop ((dec62 l).2 + (dec64 (l.drop (dec62 l).2)).2))).2)

theorem fits_i64 {o : Opn} (h : FitsO o) : I64 o.a ∧ I64 o.b := by
  obtain ⟨_, _, h1, h2, h3, h4⟩ := h
  exact ⟨i64_small (by omega) (by omega), i64_small (by omega) (by omega)⟩

theorem uv_ne (u : Nat) : (Lib.uvarint u).length ≠ 0 := by have := Lib.uvarint_pos u; omega

theorem getOp_put (o : Opn) (h : FitsO o) (t : List UInt8) : getOpL (putOpL o ++ t) = (o, (putOpL o).length) := by
  obtain ⟨ia, ib⟩ := fits_i64 h
  have hc0 := h.1
  have hc1 := h.2.1
  have d1 : dec62 (putOpL o ++ t) = (o.code.toNat, (Lib.uvarint o.code.toNat).length) := by
    unfold putOpL
    rw [List.append_assoc]
    exact dec62_uvarint _ _ (by omega)
  have e1 : (putOpL o ++ t).drop (Lib.uvarint o.code.toNat).length = Lib.uvarint (Lib.zigzag o.a) ++ (Lib.uvarint (Lib.zigzag o.b) ++ t) := by
    unfold putOpL
    rw [List.append_assoc, List.drop_left, List.append_assoc]
  have d2 := dec64_uvarint (Lib.zigzag o.a) (Lib.uvarint (Lib.zigzag o.b) ++ t) (zig_lt ia)
  have e2 : (putOpL o ++ t).drop ((Lib.uvarint o.code.toNat).length + (Lib.uvarint (Lib.zigzag o.a)).length) = Lib.uvarint (Lib.zigzag o.b) ++ t := by
    rw [← List.drop_drop, e1, List.drop_left]
  have d3 := dec64_uvarint (Lib.zigzag o.b) t (zig_lt ib)
  have eo : (⟨((o.code.toNat : Nat) : Int), zag (Lib.zigzag o.a), zag (Lib.zigzag o.b)⟩ : Opn) = o := by
    rw [zag_zigzag _ ia.1 ia.2, zag_zigzag _ ib.1 ib.2]
    obtain ⟨c, a, b⟩ := o
    simp only [Opn.mk.injEq, and_true]
    simp only at hc0
    omega
  unfold getOpL
  simp only [d1, e1, d2, e2, d3]
  rw [if_neg, eo]
  · simp only [Prod.mk.injEq, true_and]
    unfold putOpL
    simp only [List.length_append]
    omega
  · rw [eo]
    rintro (h1 | h1 | h1 | h1)
    · exact uv_ne _ h1
    · exact uv_ne _ h1
    · exact uv_ne _ h1
    · exact h1 h

theorem getOp_le (l : List UInt8) : (getOpL l).2 ≤ l.length := by
  unfold getOpL
  split
  · exact Nat.zero_le _
  · have h1 := dec62_le l
    have h2 := dec64_le (l.drop (dec62 l).2)
    have h3 := dec64_le (l.drop ((dec62 l).2 + (dec64 (l.drop (dec62 l).2)).2))
    simp only [List.length_drop] at h2 h3
    show (dec62 l).2 + _ + _ ≤ _
    omega

theorem getOp_none {l : List UInt8} (h : (getOpL l).2 = 0) : (getOpL l).1 = ⟨0, 0, 0⟩ := by
  unfold getOpL at h ⊢
  split
  · rfl
  · rename_i hn
    rw [if_neg hn] at h
    simp only at h
    omega

theorem take_split (l : List UInt8) (i j : Nat) : l.take (i + j) = l.take i ++ (l.drop i).take j := by
  rw [List.take_add]

theorem getOp_sound {l : List UInt8} (h : (getOpL l).2 ≠ 0) : FitsO (getOpL l).1 ∧ putOpL (getOpL l).1 = l.take (getOpL l).2 := by
  unfold getOpL at h ⊢
  by_cases hn : (dec62 l).2 = 0 ∨ (dec64 (l.drop (dec62 l).2)).2 = 0 ∨ (dec64 (l.drop ((dec62 l).2 + (dec64 (l.drop (dec62 l).2)).2))).2 = 0 ∨ ¬ FitsO ⟨((dec62 l).1 : Int), zag (dec64 (l.drop (dec62 l).2)).1, zag (dec64 (l.drop ((dec62 l).2 + (dec64 (l.drop (dec62 l).2)).2))).1⟩
  · rw [if_pos hn] at h
    exact absurd rfl h
  · rw [if_neg hn]
    have h1 : (dec62 l).2 ≠ 0 := fun e => hn (.inl e)
    have h2 : (dec64 (l.drop (dec62 l).2)).2 ≠ 0 := fun e => hn (.inr (.inl e))
    have h3 : (dec64 (l.drop ((dec62 l).2 + (dec64 (l.drop (dec62 l).2)).2))).2 ≠ 0 := fun e => hn (.inr (.inr (.inl e)))
    have h4 : FitsO ⟨((dec62 l).1 : Int), zag (dec64 (l.drop (dec62 l).2)).1, zag (dec64 (l.drop ((dec62 l).2 + (dec64 (l.drop (dec62 l).2)).2))).1⟩ := Classical.byContradiction fun e => hn (.inr (.inr (.inr e)))
    refine ⟨h4, ?_⟩
    have c1 : l.take (dec62 l).2 = Lib.uvarint (dec62 l).1 := by
      rcases dec62_cases l with e | e
      · rw [e] at h1; exact absurd rfl h1
      · exact e.2.2.2
    have c2 : (l.drop (dec62 l).2).take (dec64 (l.drop (dec62 l).2)).2 = Lib.uvarint (dec64 (l.drop (dec62 l).2)).1 := by
      rcases dec64_cases (l.drop (dec62 l).2) with e | e
      · rw [e] at h2; exact absurd rfl h2
      · exact e.2.2.2
    have c3 : (l.drop ((dec62 l).2 + (dec64 (l.drop (dec62 l).2)).2)).take (dec64 (l.drop ((dec62 l).2 + (dec64 (l.drop (dec62 l).2)).2))).2 = Lib.uvarint (dec64 (l.drop ((dec62 l).2 + (dec64 (l.drop (dec62 l).2)).2))).1 := by
      rcases dec64_cases (l.drop ((dec62 l).2 + (dec64 (l.drop (dec62 l).2)).2)) with e | e
      · rw [e] at h3; exact absurd rfl h3
      · exact e.2.2.2
    unfold putOpL
    simp only [zigzag_zag]
    rw [take_split, take_split, c1, c2, c3, List.append_assoc]
    rfl

/-- Two operations of which one's bytes begin the other's are one. -/
theorem putOp_apart {o p : Opn} (ho : FitsO o) (hp : FitsO p) {t : List UInt8} (h : putOpL p = putOpL o ++ t) : o = p := by
  have h1 := getOp_put o ho t
  have h2 := getOp_put p hp []
  rw [List.append_nil, h] at h2
  rw [h1] at h2
  injection h2

/-- Numbers as bytes. -/
def numsL : List Int → List UInt8
  | [] => []
  | x :: r => Lib.uvarint (Lib.zigzag x) ++ numsL r

/-- What a state is sealed for, as a number. -/
def sealN (s : St) : Nat := if s.shut = true then s.eng.toNat + 1 else 0

/-- A state's bytes. -/
def encS (s : St) : List UInt8 := Lib.uvarint s.kind.toNat ++ (Lib.uvarint (sealN s) ++ (Lib.uvarint s.L.length ++ numsL s.L))

/-- So many numbers that bytes begin with, and how many bytes they are. -/
def readL : Nat → List UInt8 → Option (List Int × Nat)
  | 0, _ => some ([], 0)
  | n + 1, l => if (dec64 l).2 = 0 then none else (readL n (l.drop (dec64 l).2)).map fun x => (zag (dec64 l).1 :: x.1, (dec64 l).2 + x.2)

/-- The state of three numbers and a list. -/
def mkS (kind sl : Nat) (xs : List Int) : St := ⟨kind, xs, decide (0 < sl), if 0 < sl then (sl : Int) - 1 else 0⟩

def zeroS : St := ⟨0, [], false, 0⟩

/-- What comes of three numbers and the bytes behind them. -/
def restS (kind sl many : Nat) (l : List UInt8) : St × Int :=
  match readL many l with
  | none => (zeroS, 3)
  | some (xs, u) => if u ≠ l.length then (zeroS, 3) else if MayS (mkS kind sl xs) then (mkS kind sl xs, 0) else (zeroS, 1)

/-- The state that bytes are, and the error. -/
def decS (l : List UInt8) : St × Int :=
  if (dec62 l).2 = 0 ∨ (dec62 (l.drop (dec62 l).2)).2 = 0 ∨ (dec62 (l.drop ((dec62 l).2 + (dec62 (l.drop (dec62 l).2)).2))).2 = 0 ∨ 3 < (dec62 (l.drop (dec62 l).2)).1 ∨ 128 < (dec62 (l.drop ((dec62 l).2 + (dec62 (l.drop (dec62 l).2)).2))).1 then (zeroS, 3)
  else restS (dec62 l).1 (dec62 (l.drop (dec62 l).2)).1 (dec62 (l.drop ((dec62 l).2 + (dec62 (l.drop (dec62 l).2)).2))).1 (l.drop ((dec62 l).2 + (dec62 (l.drop (dec62 l).2)).2 + (dec62 (l.drop ((dec62 l).2 + (dec62 (l.drop (dec62 l).2)).2))).2))

theorem readL_nums : ∀ (L : List Int) (t : List UInt8), (∀ x ∈ L, I64 x) → readL L.length (numsL L ++ t) = some (L, (numsL L).length)
  | [], t, _ => rfl
  | x :: r, t, h => by
    have hx := h x (by simp)
    have ih := readL_nums r t (fun y hy => h y (by simp [hy]))
    have d := dec64_uvarint (Lib.zigzag x) (numsL r ++ t) (zig_lt hx)
    rw [List.length_cons, numsL, List.append_assoc, readL, d]
    simp only
    rw [if_neg (uv_ne _), List.drop_left, ih, zag_zigzag x hx.1 hx.2]
    simp

theorem readL_sound : ∀ (n : Nat) (l : List UInt8) (xs : List Int) (u : Nat), readL n l = some (xs, u) → xs.length = n ∧ u ≤ l.length ∧ numsL xs = l.take u ∧ ∀ x ∈ xs, I64 x
  | 0, l, xs, u, h => by
    simp only [readL, Option.some.injEq, Prod.mk.injEq] at h
    obtain ⟨rfl, rfl⟩ := h
    exact ⟨rfl, Nat.zero_le _, by simp [numsL], fun x hx => by simp at hx⟩
  | n + 1, l, xs, u, h => by
    rw [readL] at h
    by_cases h0 : (dec64 l).2 = 0
    · rw [if_pos h0] at h; cases h
    · rw [if_neg h0] at h
      obtain ⟨⟨ys, k⟩, hy, he⟩ := Option.map_eq_some_iff.1 h
      simp only [Prod.mk.injEq] at he
      obtain ⟨rfl, rfl⟩ := he
      obtain ⟨i1, i2, i3, i4⟩ := readL_sound n _ ys k hy
      rcases dec64_cases l with e | ⟨e1, e2, e3, e4⟩
      · rw [e] at h0; exact absurd rfl h0
      · simp only [List.length_drop] at i2
        refine ⟨by simp [i1], by omega, ?_, ?_⟩
        · rw [numsL, zigzag_zag, i3, take_split, e4]
        · intro x hx
          rcases List.mem_cons.1 hx with rfl | hx
          · exact zag_i64 e1
          · exact i4 x hx

theorem readL_cut : ∀ (L : List Int) (c : Nat), (∀ x ∈ L, I64 x) → c < (numsL L).length → readL L.length ((numsL L).take c) = none
  | [], c, _, hc => by simp [numsL] at hc
  | x :: r, c, h, hc => by
    have hx := h x (by simp)
    rw [List.length_cons, readL]
    by_cases hl : c < (Lib.uvarint (Lib.zigzag x)).length
    · have e : (numsL (x :: r)).take c = (Lib.uvarint (Lib.zigzag x)).take c := by
        rw [numsL, List.take_append_of_le_length (by omega)]
      rw [e, dec64_cut _ _ (zig_lt hx) hl, if_pos rfl]
    · have e : (numsL (x :: r)).take c = Lib.uvarint (Lib.zigzag x) ++ (numsL r).take (c - (Lib.uvarint (Lib.zigzag x)).length) := by
        rw [numsL, List.take_append, List.take_of_length_le (by omega)]
      have hc' : c - (Lib.uvarint (Lib.zigzag x)).length < (numsL r).length := by
        rw [numsL, List.length_append] at hc
        omega
      rw [e, dec64_uvarint _ _ (zig_lt hx)]
      simp only
      rw [if_neg (uv_ne _), List.drop_left, readL_cut r _ (fun y hy => h y (by simp [hy])) hc']
      rfl

theorem sealN_le {s : St} (h : MayS s) : sealN s ≤ 3 := by
  have := h.1
  have := h.2.1
  unfold sealN
  split <;> omega

theorem mkS_enc {s : St} (h : MayS s) : mkS s.kind.toNat (sealN s) s.L = s := by
  obtain ⟨k, l, sh, g⟩ := s
  have h1 : 0 ≤ g := h.1
  have h4 : 0 ≤ k := h.2.2.2.1
  have h3 : sh = false → g = 0 := h.2.2.1
  unfold mkS sealN
  cases sh with
  | true => simp; omega
  | false =>
    have := h3 rfl
    simp
    omega

theorem may_small {s : St} (h : MayS s) : s.kind.toNat < 4611686018427387904 ∧ s.L.length ≤ 128 ∧ ∀ x ∈ s.L, I64 x := by
  have h0 := h.2.2.2.1
  have h6 := h.2.2.2.2.1
  have hn := h.2.2.2.2.2
  by_cases h4 : s.kind = 4
  · rw [h4, numsOk_4] at hn
    refine ⟨by omega, hn.1, fun x hx => ?_⟩
    have hb : ∀ (l : List Int) (lo : Int), -1 ≤ lo → Pairs (-1099511627776) lo l → ∀ x ∈ l, I64 x := by
      intro l
      match l with
      | [] => intro _ _ _ x hx; simp at hx
      | [_] => intro _ _ h; simp [Pairs] at h
      | a :: b :: r => exact pairsW a b r
    exact hb s.L (-1) (by decide) hn.2 x hx
  · by_cases h5 : s.kind = 5
    · rw [h5, numsOk_5] at hn
      exact ⟨by omega, hn.1, fun x hx => by have := pairs_mem (by decide) hn.2 x hx; exact i64_small (by omega) (by omega)⟩
    · have hl := (numsOk_list h4 h5).1 hn
      exact ⟨by omega, by omega, fun x hx => by have := (inBounds_iff _).1 hl.2.2 x hx; exact i64_small (by omega) (by omega)⟩
where
  pairsW (a b : Int) (r : List Int) : ∀ (lo : Int), -1 ≤ lo → Pairs (-1099511627776) lo (a :: b :: r) → ∀ x ∈ a :: b :: r, I64 x := by
    intro lo hlo h x hx
    unfold Pairs at h
    simp at hx
    rcases hx with rfl | rfl | hx
    · exact i64_small (by omega) (by omega)
    · exact i64_small (by omega) (by omega)
    · match r, hx, h with
      | a2 :: b2 :: r2, hx, h => exact pairsW a2 b2 r2 a (by omega) h.2.2.2.2 x hx
      | [c], _, h => simp [Pairs] at h

theorem decS_three (k s m : Nat) (t : List UInt8) (hk : k < 4611686018427387904) (hs : s ≤ 3) (hm : m ≤ 128) : decS (Lib.uvarint k ++ (Lib.uvarint s ++ (Lib.uvarint m ++ t))) = restS k s m t := by
  have d1 := dec62_uvarint k (Lib.uvarint s ++ (Lib.uvarint m ++ t)) hk
  have e1 : (Lib.uvarint k ++ (Lib.uvarint s ++ (Lib.uvarint m ++ t))).drop (Lib.uvarint k).length = Lib.uvarint s ++ (Lib.uvarint m ++ t) := List.drop_left
  have d2 := dec62_uvarint s (Lib.uvarint m ++ t) (by omega)
  have e2 : (Lib.uvarint k ++ (Lib.uvarint s ++ (Lib.uvarint m ++ t))).drop ((Lib.uvarint k).length + (Lib.uvarint s).length) = Lib.uvarint m ++ t := by rw [← List.drop_drop, e1, List.drop_left]
  have d3 := dec62_uvarint m t (by omega)
  have e3 : (Lib.uvarint k ++ (Lib.uvarint s ++ (Lib.uvarint m ++ t))).drop ((Lib.uvarint k).length + (Lib.uvarint s).length + (Lib.uvarint m).length) = t := by rw [← List.drop_drop, e2, List.drop_left]
  unfold decS
  simp only [d1, e1, d2, e2, d3, e3]
  rw [if_neg]
  rintro (h | h | h | h | h)
  · exact uv_ne _ h
  · exact uv_ne _ h
  · exact uv_ne _ h
  · omega
  · omega

theorem decS_enc {s : St} (h : MayS s) : decS (encS s) = (s, 0) := by
  obtain ⟨h1, h2, h3⟩ := may_small h
  unfold encS
  rw [decS_three _ _ _ _ h1 (sealN_le h) h2]
  have hr := readL_nums s.L [] h3
  rw [List.append_nil] at hr
  unfold restS
  rw [hr]
  simp only
  rw [if_neg (by simp), mkS_enc h, if_pos h]

/-- With something behind it a state's bytes are none. -/
theorem decS_more {s : St} (h : MayS s) (t : List UInt8) (ht : t ≠ []) : decS (encS s ++ t) = (zeroS, 3) := by
  obtain ⟨h1, h2, h3⟩ := may_small h
  unfold encS
  rw [List.append_assoc, List.append_assoc, List.append_assoc, decS_three _ _ _ _ h1 (sealN_le h) h2]
  unfold restS
  rw [readL_nums s.L t h3]
  simp only
  rw [if_pos]
  have : 0 < t.length := List.length_pos_iff.2 ht
  simp
  omega

theorem dec62_app_cut (u : Nat) (t : List UInt8) (c : Nat) (hu : u < 4611686018427387904) : (c < (Lib.uvarint u).length ∧ (dec62 ((Lib.uvarint u ++ t).take c)).2 = 0) ∨ ((Lib.uvarint u).length ≤ c ∧ (Lib.uvarint u ++ t).take c = Lib.uvarint u ++ t.take (c - (Lib.uvarint u).length)) := by
  by_cases hc : c < (Lib.uvarint u).length
  · left
    rw [List.take_append_of_le_length (by omega), dec62_cut u c hu hc]
    exact ⟨hc, rfl⟩
  · right
    rw [List.take_append, List.take_of_length_le (by omega)]
    exact ⟨by omega, rfl⟩

/-- A state's bytes without the last ones are none. -/
theorem decS_cut {s : St} (h : MayS s) (c : Nat) (hc : c < (encS s).length) : decS ((encS s).take c) = (zeroS, 3) := by
  obtain ⟨h1, h2, h3⟩ := may_small h
  have hs := sealN_le h
  unfold encS at hc ⊢
  generalize s.kind.toNat = k at *
  generalize sealN s = m at *
  rcases dec62_app_cut k (Lib.uvarint m ++ (Lib.uvarint s.L.length ++ numsL s.L)) c h1 with ⟨_, z⟩ | ⟨l1, e1⟩
  · unfold decS
    rw [if_pos (.inl z)]
  rw [e1]
  have d1 := fun t => dec62_uvarint k t h1
  rcases dec62_app_cut m (Lib.uvarint s.L.length ++ numsL s.L) (c - (Lib.uvarint k).length) (by omega) with ⟨_, z⟩ | ⟨l2, e2⟩
  · unfold decS
    rw [if_pos]
    right; left
    rw [d1, List.drop_left]
    exact z
  rw [e2]
  rcases dec62_app_cut s.L.length (numsL s.L) (c - (Lib.uvarint k).length - (Lib.uvarint m).length) (by omega) with ⟨_, z⟩ | ⟨l3, e3⟩
  · unfold decS
    rw [if_pos]
    right; right; left
    have d2 := fun t => dec62_uvarint m t (by omega)
    rw [d1]
    simp only [List.drop_left]
    rw [d2]
    simp only
    rw [← List.drop_drop, List.drop_left, List.drop_left]
    exact z
  rw [e3, decS_three _ _ _ _ h1 hs h2]
  unfold restS
  rw [readL_cut s.L _ h3 (by simp only [List.length_append] at hc; omega)]

theorem decS_codes (l : List UInt8) : (decS l).2 = 0 ∨ ((decS l).1 = zeroS ∧ ((decS l).2 = 3 ∨ (decS l).2 = 1)) := by
  unfold decS
  split
  · exact .inr ⟨rfl, .inl rfl⟩
  · unfold restS
    split
    · exact .inr ⟨rfl, .inl rfl⟩
    · split
      · exact .inr ⟨rfl, .inl rfl⟩
      · split
        · exact .inl rfl
        · exact .inr ⟨rfl, .inr rfl⟩

/-- What is decoded may be, and is encoded as just these bytes. -/
theorem decS_sound {l : List UInt8} (h : (decS l).2 = 0) : MayS (decS l).1 ∧ encS (decS l).1 = l := by
  unfold decS at h ⊢
  by_cases hn : (dec62 l).2 = 0 ∨ (dec62 (l.drop (dec62 l).2)).2 = 0 ∨ (dec62 (l.drop ((dec62 l).2 + (dec62 (l.drop (dec62 l).2)).2))).2 = 0 ∨ 3 < (dec62 (l.drop (dec62 l).2)).1 ∨ 128 < (dec62 (l.drop ((dec62 l).2 + (dec62 (l.drop (dec62 l).2)).2))).1
  · rw [if_pos hn] at h
    cases h
  · rw [if_neg hn] at h ⊢
    have h1 : (dec62 l).2 ≠ 0 := fun e => hn (.inl e)
    have h2 : (dec62 (l.drop (dec62 l).2)).2 ≠ 0 := fun e => hn (.inr (.inl e))
    have h3 : (dec62 (l.drop ((dec62 l).2 + (dec62 (l.drop (dec62 l).2)).2))).2 ≠ 0 := fun e => hn (.inr (.inr (.inl e)))
    have c1 : l.take (dec62 l).2 = Lib.uvarint (dec62 l).1 := by
      rcases dec62_cases l with e | e
      · rw [e] at h1; exact absurd rfl h1
      · exact e.2.2.2
    have c2 : (l.drop (dec62 l).2).take (dec62 (l.drop (dec62 l).2)).2 = Lib.uvarint (dec62 (l.drop (dec62 l).2)).1 := by
      rcases dec62_cases (l.drop (dec62 l).2) with e | e
      · rw [e] at h2; exact absurd rfl h2
      · exact e.2.2.2
    have c3 : (l.drop ((dec62 l).2 + (dec62 (l.drop (dec62 l).2)).2)).take (dec62 (l.drop ((dec62 l).2 + (dec62 (l.drop (dec62 l).2)).2))).2 = Lib.uvarint (dec62 (l.drop ((dec62 l).2 + (dec62 (l.drop (dec62 l).2)).2))).1 := by
      rcases dec62_cases (l.drop ((dec62 l).2 + (dec62 (l.drop (dec62 l).2)).2)) with e | e
      · rw [e] at h3; exact absurd rfl h3
      · exact e.2.2.2
    generalize (dec62 (l.drop ((dec62 l).2 + (dec62 (l.drop (dec62 l).2)).2))).2 = k at *
    generalize (dec62 (l.drop ((dec62 l).2 + (dec62 (l.drop (dec62 l).2)).2))).1 = many at *
    generalize (dec62 (l.drop (dec62 l).2)).2 = j at *
    generalize (dec62 (l.drop (dec62 l).2)).1 = sl at *
    generalize (dec62 l).2 = i at *
    generalize (dec62 l).1 = kind at *
    unfold restS at h ⊢
    cases hr : readL many (l.drop (i + j + k)) with
    | none => rw [hr] at h; cases h
    | some x =>
      obtain ⟨xs, u⟩ := x
      rw [hr] at h
      simp only at h ⊢
      obtain ⟨r1, r2, r3, r4⟩ := readL_sound _ _ _ _ hr
      by_cases hu : u ≠ (l.drop (i + j + k)).length
      · rw [if_pos hu] at h; cases h
      · rw [if_neg hu] at h ⊢
        by_cases hm : MayS (mkS kind sl xs)
        · rw [if_pos hm]
          refine ⟨hm, ?_⟩
          have hu' : u = (l.drop (i + j + k)).length := Classical.byContradiction hu
          rw [hu', List.take_length] at r3
          have ek : (mkS kind sl xs).kind.toNat = kind := by simp [mkS]
          have es : sealN (mkS kind sl xs) = sl := by
            unfold sealN mkS
            by_cases h0 : 0 < sl
            · simp [h0]; omega
            · simp [h0]; omega
          show Lib.uvarint (mkS kind sl xs).kind.toNat ++ (Lib.uvarint (sealN (mkS kind sl xs)) ++ (Lib.uvarint xs.length ++ numsL xs)) = l
          rw [ek, es, r1, r3, ← c1, ← c2, ← c3]
          have f1 : l.drop (i + j) = (l.drop i).drop j := by rw [List.drop_drop]
          have f2 : l.drop (i + j + k) = ((l.drop i).drop j).drop k := by rw [List.drop_drop, List.drop_drop, Nat.add_assoc]
          rw [f1, f2, List.take_append_drop, List.take_append_drop, List.take_append_drop]
        · rw [if_neg hm] at h; cases h

end Go.Proofs.Ytiofhmlkgieclaa

/- Schema: records as bytes in three versions, over plain lists, and what follows. -/
namespace Go.Proofs.Ytiofhmlkgieclaa

/-- A record. -/
structure Rec where
  idx : Int
  proc : Int
  seq : Int
  op : Opn
  resp : Int

def zeroR : Rec := ⟨0, 0, 0, ⟨0, 0, 0⟩, 0⟩

def FitsR (r : Rec) : Prop := FitsO r.op ∧ 0 ≤ r.idx ∧ r.idx < 4611686018427387904 ∧ 0 ≤ r.seq ∧ r.seq < 4611686018427387904 ∧ 0 ≤ r.proc ∧ r.proc ≤ 64 ∧ -1125899906842624 ≤ r.resp ∧ r.resp ≤ 1125899906842624

instance (r : Rec) : Decidable (FitsR r) := by unfold FitsR; infer_instance

/-- A record as a version can tell it. -/
def upgR (v : Int) (r : Rec) : Rec := ⟨r.idx, r.proc, if v < 2 then 0 else r.seq, r.op, if v < 3 then 0 else r.resp⟩

/-- Has a version a field? -/
def hasV (v f : Nat) : Prop := f = 1 ∨ f = 2 ∨ f = 4 ∨ (f = 3 ∧ 2 ≤ v) ∨ (f = 5 ∧ v = 3)

instance (v f : Nat) : Decidable (hasV v f) := by unfold hasV; infer_instance

/-- A field's bytes. -/
def bytesF (r : Rec) (f : Nat) : List UInt8 :=
  if f = 1 then Lib.uvarint r.idx.toNat else if f = 2 then Lib.uvarint r.proc.toNat else if f = 3 then Lib.uvarint r.seq.toNat
  else if f = 4 then putOpL r.op else Lib.uvarint (Lib.zigzag r.resp)

/-- A record with another's field. -/
def setF (src r : Rec) (f : Nat) : Rec :=
  if f = 1 then { r with idx := src.idx } else if f = 2 then { r with proc := src.proc } else if f = 3 then { r with seq := src.seq }
  else if f = 4 then { r with op := src.op } else { r with resp := src.resp }

/-- A record with the value that bytes begin with, and how many these are. -/
def valueF (r : Rec) (f : Nat) (l : List UInt8) : Rec × Nat :=
  if f = 1 then ({ r with idx := ((dec62 l).1 : Int) }, (dec62 l).2) else if f = 2 then ({ r with proc := ((dec62 l).1 : Int) }, (dec62 l).2)
  else if f = 3 then ({ r with seq := ((dec62 l).1 : Int) }, (dec62 l).2) else if f = 4 then ({ r with op := (getOpL l).1 }, (getOpL l).2)
  else ({ r with resp := zag (dec64 l).1 }, (dec64 l).2)

theorem ne_nil_of {l : List UInt8} (h : 0 < l.length) : l ≠ [] := by intro e; rw [e] at h; simp at h

set_option linter.unusedVariables false in
/-- The fields, one by one, up to the end: the record and how many there were, or the error. -/
def walkV (v : Nat) (l : List UInt8) (last : Int) (found : Nat) (r : Rec) : Except Int (Rec × Nat) :=
  if hl : l = [] then .ok (r, found)
  else if hk : (dec62 l).2 = 0 ∨ ((dec62 l).1 : Int) ≤ last then .error 3
  else if hasV v (dec62 l).1 then
    if (valueF r (dec62 l).1 (l.drop (dec62 l).2)).2 = 0 then .error 3
    else walkV v (l.drop ((dec62 l).2 + (valueF r (dec62 l).1 (l.drop (dec62 l).2)).2)) (dec62 l).1 (found + 1) (valueF r (dec62 l).1 (l.drop (dec62 l).2)).1
  else if (dec62 l).1 < 16 ∨ v = 3 then .error 7
  else if (dec62 (l.drop (dec62 l).2)).2 = 0 ∨ l.length < (dec62 l).2 + (dec62 (l.drop (dec62 l).2)).2 + (dec62 (l.drop (dec62 l).2)).1 then .error 3
  else walkV v (l.drop ((dec62 l).2 + (dec62 (l.drop (dec62 l).2)).2 + (dec62 (l.drop (dec62 l).2)).1)) (dec62 l).1 found r
termination_by l.length
decreasing_by
  all_goals
    have h1 : l.length ≠ 0 := by simpa using hl
    have h2 : (dec62 l).2 ≠ 0 := fun e => hk (.inl e)
    rw [List.length_drop]
    omega

/-- What bytes are: a record, or the error. -/
def decR (l : List UInt8) : Rec × Int :=
  if l = [] then (zeroR, 2)
  else if (dec62 l).2 = 0 then (zeroR, 3)
  else if (dec62 l).1 < 1 ∨ 3 < (dec62 l).1 then (zeroR, 6)
  else match walkV (dec62 l).1 (l.drop (dec62 l).2) (-1) 0 zeroR with
    | .error e => (zeroR, e)
    | .ok (r, found) => if found ≠ (dec62 l).1 + 2 then (zeroR, 7) else if FitsR r then (r, 0) else (zeroR, 1)

/-- The fields of a version. -/
def fieldsV (v : Int) : List Nat := if v = 1 then [1, 2, 4] else if v = 2 then [1, 2, 3, 4] else [1, 2, 3, 4, 5]

def encFs (r : Rec) : List Nat → List UInt8
  | [] => []
  | f :: fs => Lib.uvarint f ++ (bytesF r f ++ encFs r fs)

/-- A record's bytes. -/
def encR (v : Int) (r : Rec) : List UInt8 := Lib.uvarint v.toNat ++ encFs r (fieldsV v)

theorem bytesF_ne (r : Rec) (f : Nat) : (bytesF r f).length ≠ 0 := by
  unfold bytesF putOpL
  repeat' split
  all_goals
    have := Lib.uvarint_pos r.idx.toNat
    have := Lib.uvarint_pos r.proc.toNat
    have := Lib.uvarint_pos r.seq.toNat
    have := Lib.uvarint_pos r.op.code.toNat
    have := Lib.uvarint_pos (Lib.zigzag r.resp)
    try simp only [List.length_append]
    omega

theorem fitsR_resp {r : Rec} (h : FitsR r) : I64 r.resp := i64_small (by have := h.2.2.2.2.2.2.2.1; omega) (by have := h.2.2.2.2.2.2.2.2; omega)

/-- A field that was put is read. -/
theorem valueF_put {src : Rec} (h : FitsR src) (r : Rec) (f : Nat) (t : List UInt8) : valueF r f (bytesF src f ++ t) = (setF src r f, (bytesF src f).length) := by
  have hr := fitsR_resp h
  obtain ⟨h1, h2, h3, h4, h5, h6, h7, h8, h9⟩ := h
  unfold valueF bytesF setF
  repeat' split
  · rw [dec62_uvarint _ _ (by omega), Int.toNat_of_nonneg h2]
  · rw [dec62_uvarint _ _ (by omega), Int.toNat_of_nonneg h6]
  · rw [dec62_uvarint _ _ (by omega), Int.toNat_of_nonneg h4]
  · rw [getOp_put _ h1]
  · rw [dec64_uvarint _ _ (zig_lt hr), zag_zigzag _ hr.1 hr.2]

theorem getOp_cut {o : Opn} (h : FitsO o) (c : Nat) (hc : c < (putOpL o).length) : (getOpL ((putOpL o).take c)).2 = 0 := by
  by_cases h0 : (getOpL ((putOpL o).take c)).2 = 0
  · exact h0
  · exfalso
    obtain ⟨h1, h2⟩ := getOp_sound h0
    have h3 := getOp_le ((putOpL o).take c)
    rw [List.length_take] at h3
    rw [List.take_take] at h2
    have h4 : putOpL o = putOpL (getOpL ((putOpL o).take c)).1 ++ (putOpL o).drop (min (getOpL ((putOpL o).take c)).2 c) := by
      rw [h2, List.take_append_drop]
    have h5 := putOp_apart h1 h h4
    rw [h5] at h2
    have h6 := congrArg List.length h2
    rw [List.length_take] at h6
    omega

/-- A field that is cut off is none. -/
theorem valueF_cut {src : Rec} (h : FitsR src) (r : Rec) (f c : Nat) (hc : c < (bytesF src f).length) : (valueF r f ((bytesF src f).take c)).2 = 0 := by
  have hr := fitsR_resp h
  obtain ⟨h1, h2, h3, h4, h5, h6, h7, h8, h9⟩ := h
  unfold valueF
  unfold bytesF at hc ⊢
  repeat' split
  · rename_i e
    rw [if_pos e] at hc
    rw [dec62_cut _ c (by omega) hc]
  · rename_i e1 e
    rw [if_neg e1, if_pos e] at hc
    rw [dec62_cut _ c (by omega) hc]
  · rename_i e1 e2 e
    rw [if_neg e1, if_neg e2, if_pos e] at hc
    rw [dec62_cut _ c (by omega) hc]
  · rename_i e1 e2 e3 e
    rw [if_neg e1, if_neg e2, if_neg e3, if_pos e] at hc
    exact getOp_cut h1 c hc
  · rename_i e1 e2 e3 e4
    rw [if_neg e1, if_neg e2, if_neg e3, if_neg e4] at hc
    rw [dec64_cut _ c (zig_lt hr) hc]

/-- One field that the version has, read. -/
theorem walk_has {v f : Nat} (hf : hasV v f) {l : List UInt8} {last : Int} {found : Nat} {r : Rec} (hlt : last < f) (hl : l ≠ []) {k : Nat} (hd : dec62 l = (f, k)) (hk : k ≠ 0) :
    walkV v l last found r = if (valueF r f (l.drop k)).2 = 0 then .error 3 else walkV v (l.drop (k + (valueF r f (l.drop k)).2)) f (found + 1) (valueF r f (l.drop k)).1 := by
  rw [walkV, dif_neg hl, dif_neg (by rw [hd]; simp only; omega), hd, if_pos hf]

theorem small_f {v f : Nat} (h : hasV v f) : 1 ≤ f ∧ f ≤ 5 := by unfold hasV at h; omega

theorem walk_field {src : Rec} (hs : FitsR src) {v f : Nat} (hf : hasV v f) (t : List UInt8) {last : Int} (hlt : last < f) (found : Nat) (r : Rec) :
    walkV v (Lib.uvarint f ++ (bytesF src f ++ t)) last found r = walkV v t f (found + 1) (setF src r f) := by
  have hb := small_f hf
  have hp := Lib.uvarint_pos f
  have hd := dec62_uvarint f (bytesF src f ++ t) (by omega)
  rw [walk_has hf hlt (ne_nil_of (by rw [List.length_append]; omega)) hd (by omega), List.drop_left, valueF_put hs, if_neg (bytesF_ne src f)]
  simp only
  rw [← List.drop_drop, List.drop_left, List.drop_left]

/-- Rising from a number on. -/
def Rising : Int → List Nat → Prop
  | _, [] => True
  | a, f :: fs => a < f ∧ Rising f fs

def lastOf : Int → List Nat → Int
  | a, [] => a
  | _, f :: fs => lastOf f fs

theorem walk_fs {src : Rec} (hs : FitsR src) {v : Nat} (t : List UInt8) : ∀ (fs : List Nat) (last : Int) (found : Nat) (r : Rec), Rising last fs → (∀ f ∈ fs, hasV v f) →
    walkV v (encFs src fs ++ t) last found r = walkV v t (lastOf last fs) (found + fs.length) (fs.foldl (setF src) r)
  | [], _, _, _, _, _ => rfl
  | f :: fs, last, found, r, hr, hh => by
    rw [encFs, List.append_assoc, List.append_assoc, walk_field hs (hh f (by simp)) _ hr.1, walk_fs hs t fs f (found + 1) _ hr.2 (fun g hg => hh g (by simp [hg]))]
    simp only [lastOf, List.length_cons, List.foldl_cons]
    rw [show found + 1 + fs.length = found + (fs.length + 1) by omega]

theorem walk_nil (v : Nat) (last : Int) (found : Nat) (r : Rec) : walkV v [] last found r = .ok (r, found) := by
  rw [walkV, dif_pos rfl]

/-- Fields that are cut off: an error, or fewer. -/
theorem walk_cut {src : Rec} (hs : FitsR src) {v : Nat} : ∀ (fs : List Nat) (c : Nat) (last : Int) (found : Nat) (r : Rec), Rising last fs → (∀ f ∈ fs, hasV v f) → c < (encFs src fs).length →
    walkV v ((encFs src fs).take c) last found r = .error 3 ∨ ∃ x n, walkV v ((encFs src fs).take c) last found r = .ok (x, n) ∧ n < found + fs.length
  | [], c, _, _, _, _, _, hc => by simp [encFs] at hc
  | f :: fs, c, last, found, r, hr, hh, hc => by
    have hf := hh f (by simp)
    have hb := small_f hf
    have hp := Lib.uvarint_pos f
    by_cases c0 : c = 0
    · subst c0
      rw [List.take_zero, walk_nil]
      exact .inr ⟨r, found, rfl, by simp⟩
    · by_cases c1 : c < (Lib.uvarint f).length
      · refine .inl ?_
        rw [encFs, List.take_append_of_le_length (by omega)]
        have hd := dec62_cut f c (by omega) c1
        rw [walkV, dif_neg (ne_nil_of (by rw [List.length_take]; omega)), dif_pos (by rw [hd]; exact .inl rfl)]
      · have e : (encFs src (f :: fs)).take c = Lib.uvarint f ++ (bytesF src f ++ encFs src fs).take (c - (Lib.uvarint f).length) := by
          rw [encFs, List.take_append, List.take_of_length_le (by omega)]
        rw [e]
        have hd := dec62_uvarint f ((bytesF src f ++ encFs src fs).take (c - (Lib.uvarint f).length)) (by omega)
        have hne : Lib.uvarint f ++ (bytesF src f ++ encFs src fs).take (c - (Lib.uvarint f).length) ≠ [] := ne_nil_of (by rw [List.length_append]; omega)
        by_cases c2 : c - (Lib.uvarint f).length < (bytesF src f).length
        · refine .inl ?_
          rw [walk_has hf hr.1 hne hd (by omega), List.drop_left, List.take_append_of_le_length (by omega), if_pos (valueF_cut hs r f _ c2)]
        · have e2 : (bytesF src f ++ encFs src fs).take (c - (Lib.uvarint f).length) = bytesF src f ++ (encFs src fs).take (c - (Lib.uvarint f).length - (bytesF src f).length) := by
            rw [List.take_append, List.take_of_length_le (by omega)]
          rw [e2, walk_field hs hf _ hr.1]
          have hc' : c - (Lib.uvarint f).length - (bytesF src f).length < (encFs src fs).length := by
            rw [encFs, List.length_append, List.length_append] at hc
            omega
          rcases walk_cut hs fs _ f (found + 1) (setF src r f) hr.2 (fun g hg => hh g (by simp [hg])) hc' with h | ⟨x, n, h, hn⟩
          · exact .inl h
          · exact .inr ⟨x, n, h, by simp only [List.length_cons]; omega⟩

theorem fields_ok {v : Int} (h1 : 1 ≤ v) (h3 : v ≤ 3) : Rising (-1) (fieldsV v) ∧ (∀ f ∈ fieldsV v, hasV v.toNat f) ∧ (fieldsV v).length = v.toNat + 2 := by
  have hv : v = 1 ∨ v = 2 ∨ v = 3 := by omega
  rcases hv with rfl | rfl | rfl
  · refine ⟨by simp [fieldsV, Rising], ?_, rfl⟩
    intro f hf
    simp [fieldsV] at hf
    unfold hasV
    omega
  · refine ⟨by simp [fieldsV, Rising], ?_, rfl⟩
    intro f hf
    simp [fieldsV] at hf
    unfold hasV
    omega
  · refine ⟨by simp [fieldsV, Rising], ?_, rfl⟩
    intro f hf
    simp [fieldsV] at hf
    unfold hasV
    omega

theorem fields_set {v : Int} (h1 : 1 ≤ v) (h3 : v ≤ 3) (r : Rec) : (fieldsV v).foldl (setF r) zeroR = upgR v r := by
  have hv : v = 1 ∨ v = 2 ∨ v = 3 := by omega
  rcases hv with rfl | rfl | rfl <;> rfl

theorem upg_fits {v : Int} {r : Rec} (h : FitsR r) : FitsR (upgR v r) := by
  obtain ⟨h1, h2, h3, h4, h5, h6, h7, h8, h9⟩ := h
  refine ⟨h1, h2, h3, ?_, ?_, h6, h7, ?_, ?_⟩
  all_goals
    simp only [upgR]
    split <;> omega

theorem decR_enc {v : Int} (h1 : 1 ≤ v) (h3 : v ≤ 3) {r : Rec} (hr : FitsR r) : decR (encR v r) = (upgR v r, 0) := by
  obtain ⟨a, b, c⟩ := fields_ok h1 h3
  have hp := Lib.uvarint_pos v.toNat
  have hd := dec62_uvarint v.toNat (encFs r (fieldsV v)) (by omega)
  have hw := walk_fs hr [] (fieldsV v) (-1) 0 zeroR a b
  rw [List.append_nil, walk_nil, fields_set h1 h3] at hw
  unfold decR
  rw [if_neg (ne_nil_of (by unfold encR; rw [List.length_append]; omega))]
  unfold encR
  rw [hd]
  simp only
  rw [if_neg (by omega), if_neg (by omega), List.drop_left, hw]
  simp only
  rw [if_neg (by omega), if_pos (upg_fits hr)]

/-- Bytes that are cut off are no record. -/
theorem decR_cut {v : Int} (h1 : 1 ≤ v) (h3 : v ≤ 3) {r : Rec} (hr : FitsR r) (c : Nat) (hc : c < (encR v r).length) : (decR ((encR v r).take c)).2 ≠ 0 := by
  obtain ⟨a, b, n⟩ := fields_ok h1 h3
  have hp := Lib.uvarint_pos v.toNat
  have hv1 : (Lib.uvarint v.toNat).length = 1 := by rw [Lib.uvarint_small (by omega)]; rfl
  by_cases c0 : c = 0
  · subst c0
    rw [List.take_zero]
    simp [decR]
  · have e : (encR v r).take c = Lib.uvarint v.toNat ++ (encFs r (fieldsV v)).take (c - (Lib.uvarint v.toNat).length) := by
      unfold encR
      rw [List.take_append, List.take_of_length_le (by omega)]
    have hd := dec62_uvarint v.toNat ((encFs r (fieldsV v)).take (c - (Lib.uvarint v.toNat).length)) (by omega)
    have hc' : c - (Lib.uvarint v.toNat).length < (encFs r (fieldsV v)).length := by
      unfold encR at hc
      rw [List.length_append] at hc
      omega
    have hw := walk_cut hr (fieldsV v) _ (-1) 0 zeroR a b hc'
    rw [e]
    unfold decR
    rw [if_neg (ne_nil_of (by rw [List.length_append]; omega)), hd]
    simp only
    rw [if_neg (by omega), if_neg (by omega), List.drop_left]
    rcases hw with h | ⟨x, m, h, hm⟩
    · rw [h]
      show (3 : Int) ≠ 0
      decide
    · rw [h]
      simp only
      rw [if_pos (by omega)]
      decide

theorem dec62_take {l : List UInt8} (h : (dec62 l).2 ≠ 0) : Lib.uvarint (dec62 l).1 = l.take (dec62 l).2 := by
  rcases dec62_cases l with e | e
  · rw [e] at h; exact absurd rfl h
  · exact e.2.2.2.symm

theorem dec64_take {l : List UInt8} (h : (dec64 l).2 ≠ 0) : Lib.uvarint (dec64 l).1 = l.take (dec64 l).2 := by
  rcases dec64_cases l with e | e
  · rw [e] at h; exact absurd rfl h
  · exact e.2.2.2.symm

/-- A field that is read: its bytes, and no other field changes. -/
theorem value_sound (r : Rec) (f : Nat) (l : List UInt8) (hf : 1 ≤ f ∧ f ≤ 5) (h : (valueF r f l).2 ≠ 0) :
    bytesF (valueF r f l).1 f = l.take (valueF r f l).2 ∧ ∀ g : Nat, g ≠ f → 1 ≤ g → g ≤ 5 → bytesF (valueF r f l).1 g = bytesF r g := by
  have hc : f = 1 ∨ f = 2 ∨ f = 3 ∨ f = 4 ∨ f = 5 := by omega
  rcases hc with rfl | rfl | rfl | rfl | rfl
  · refine ⟨?_, fun g hg g1 g5 => ?_⟩
    · exact dec62_take h
    · have hg : g = 2 ∨ g = 3 ∨ g = 4 ∨ g = 5 := by omega
      rcases hg with rfl | rfl | rfl | rfl <;> rfl
  · refine ⟨?_, fun g hg g1 g5 => ?_⟩
    · exact dec62_take h
    · have hg : g = 1 ∨ g = 3 ∨ g = 4 ∨ g = 5 := by omega
      rcases hg with rfl | rfl | rfl | rfl <;> rfl
  · refine ⟨?_, fun g hg g1 g5 => ?_⟩
    · exact dec62_take h
    · have hg : g = 1 ∨ g = 2 ∨ g = 4 ∨ g = 5 := by omega
      rcases hg with rfl | rfl | rfl | rfl <;> rfl
  · refine ⟨?_, fun g hg g1 g5 => ?_⟩
    · exact (getOp_sound h).2
    · have hg : g = 1 ∨ g = 2 ∨ g = 3 ∨ g = 5 := by omega
      rcases hg with rfl | rfl | rfl | rfl <;> rfl
  · refine ⟨?_, fun g hg g1 g5 => ?_⟩
    · show Lib.uvarint (Lib.zigzag (zag (dec64 l).1)) = _
      rw [zigzag_zag]
      exact dec64_take h
    · have hg : g = 1 ∨ g = 2 ∨ g = 3 ∨ g = 4 := by omega
      rcases hg with rfl | rfl | rfl | rfl <;> rfl

/-- What is read in the newest version is what was put. -/
theorem walk3_sound : ∀ (n : Nat) (l : List UInt8) (last : Int) (found : Nat) (r r' : Rec) (found' : Nat), l.length ≤ n → walkV 3 l last found r = .ok (r', found') →
    ∃ fs, Rising last fs ∧ (∀ f ∈ fs, 1 ≤ f ∧ f ≤ 5) ∧ found' = found + fs.length ∧ l = encFs r' fs ∧ ∀ g : Nat, (g : Int) ≤ last → 1 ≤ g → g ≤ 5 → bytesF r' g = bytesF r g := by
  intro n
  induction n with
  | zero =>
    intro l last found r r' found' hn h
    have hl : l = [] := List.eq_nil_of_length_eq_zero (by omega)
    subst hl
    rw [walk_nil] at h
    injection h with h
    injection h with h1 h2
    subst h1
    subst h2
    exact ⟨[], trivial, by simp, by simp, rfl, fun _ _ _ _ => rfl⟩
  | succ n ih =>
    intro l last found r r' found' hn h
    by_cases hl : l = []
    · subst hl
      rw [walk_nil] at h
      injection h with h
      injection h with h1 h2
      subst h1
      subst h2
      exact ⟨[], trivial, by simp, by simp, rfl, fun _ _ _ _ => rfl⟩
    · rw [walkV, dif_neg hl] at h
      by_cases hk : (dec62 l).2 = 0 ∨ ((dec62 l).1 : Int) ≤ last
      · rw [dif_pos hk] at h
        cases h
      · rw [dif_neg hk] at h
        by_cases hh : hasV 3 (dec62 l).1
        · rw [if_pos hh] at h
          by_cases hm : (valueF r (dec62 l).1 (l.drop (dec62 l).2)).2 = 0
          · rw [if_pos hm] at h
            cases h
          · rw [if_neg hm] at h
            have hb := small_f hh
            obtain ⟨fs, i1, i2, i3, i4, i5⟩ := ih _ _ _ _ _ _ (by rw [List.length_drop]; omega) h
            have hc : l.take (dec62 l).2 = Lib.uvarint (dec62 l).1 := by
              rcases dec62_cases l with e | e
              · rw [e] at hk; exact absurd (.inl rfl) hk
              · exact e.2.2.2
            have hv := value_sound r (dec62 l).1 (l.drop (dec62 l).2) hb hm
            have hs := i5 (dec62 l).1 (Int.le_refl _) hb.1 hb.2
            refine ⟨(dec62 l).1 :: fs, ⟨by omega, i1⟩, ?_, by rw [i3]; simp only [List.length_cons]; omega, ?_, ?_⟩
            · intro f hf
              rcases List.mem_cons.1 hf with e | e
              · rw [e]; exact hb
              · exact i2 f e
            · rw [encFs, ← i4, hs, hv.1, ← hc, ← List.drop_drop, List.take_append_drop, List.take_append_drop]
            · intro g hg g1 g5
              rw [i5 g (by omega) g1 g5]
              exact hv.2 g (by omega) g1 g5
        · rw [if_neg hh, if_pos (.inr rfl)] at h
          cases h

theorem rising5 {fs : List Nat} (h1 : Rising (-1) fs) (h2 : ∀ f ∈ fs, 1 ≤ f ∧ f ≤ 5) (h3 : fs.length = 5) : fs = [1, 2, 3, 4, 5] := by
  match fs, h1, h2, h3 with
  | [a, b, c, d, e], ⟨i1, i2, i3, i4, i5, _⟩, h2, _ =>
    have ha := h2 a (by simp)
    have he := h2 e (by simp)
    have e1 : a = 1 := by omega
    have e2 : b = 2 := by omega
    have e3 : c = 3 := by omega
    have e4 : d = 4 := by omega
    have e5 : e = 5 := by omega
    rw [e1, e2, e3, e4, e5]

theorem walk_codes (v : Nat) : ∀ (n : Nat) (l : List UInt8) (last : Int) (found : Nat) (r : Rec) (e : Int), l.length ≤ n → walkV v l last found r = .error e → e = 3 ∨ e = 7 := by
  intro n
  induction n with
  | zero =>
    intro l last found r e hn h
    have hl : l = [] := List.eq_nil_of_length_eq_zero (by omega)
    subst hl
    rw [walk_nil] at h
    cases h
  | succ n ih =>
    intro l last found r e hn h
    by_cases hl : l = []
    · subst hl
      rw [walk_nil] at h
      cases h
    · rw [walkV, dif_neg hl] at h
      by_cases hk : (dec62 l).2 = 0 ∨ ((dec62 l).1 : Int) ≤ last
      · rw [dif_pos hk] at h
        injection h with h
        exact .inl h.symm
      · rw [dif_neg hk] at h
        split at h
        · split at h
          · injection h with h
            exact .inl h.symm
          · exact ih _ _ _ _ _ (by rw [List.length_drop]; omega) h
        · split at h
          · injection h with h
            exact .inr h.symm
          · split at h
            · injection h with h
              exact .inl h.symm
            · exact ih _ _ _ _ _ (by rw [List.length_drop]; omega) h

/-- With an error no record; else one that fits. -/
theorem decR_codes (l : List UInt8) : ((decR l).2 = 0 ∧ FitsR (decR l).1) ∨ ((decR l).2 ≠ 0 ∧ (decR l).1 = zeroR) := by
  unfold decR
  split
  · exact .inr ⟨by simp, rfl⟩
  split
  · exact .inr ⟨by simp, rfl⟩
  split
  · exact .inr ⟨by simp, rfl⟩
  split
  · rename_i e h
    rcases walk_codes _ _ _ _ _ _ _ (Nat.le_refl _) h with h | h
    · exact .inr ⟨by rw [h]; decide, rfl⟩
    · exact .inr ⟨by rw [h]; decide, rfl⟩
  · split
    · exact .inr ⟨by simp, rfl⟩
    · split
      · rename_i h
        exact .inl ⟨rfl, h⟩
      · exact .inr ⟨by simp, rfl⟩

/-- What is decoded of the newest version is encoded as just these bytes. -/
theorem decR_sound {t : List UInt8} (h : (decR (3 :: t)).2 = 0) : encR 3 (decR (3 :: t)).1 = 3 :: t := by
  have e3 : (3 :: t : List UInt8) = Lib.uvarint 3 ++ t := by rw [Lib.uvarint_small (by decide)]; rfl
  have hd := dec62_uvarint 3 t (by decide)
  have hl1 : (Lib.uvarint 3).length = 1 := by rw [Lib.uvarint_small (by decide)]; rfl
  rw [e3] at h ⊢
  unfold decR at h ⊢
  rw [if_neg (ne_nil_of (by rw [List.length_append]; omega)), hd] at h ⊢
  simp only [hl1] at h ⊢
  rw [if_neg (by omega), if_neg (by omega)] at h ⊢
  rw [show (Lib.uvarint 3 ++ t).drop 1 = t by rw [← hl1, List.drop_left]] at h ⊢
  cases hw : walkV 3 t (-1) 0 zeroR with
  | error e =>
    rw [hw] at h
    simp only at h
    rcases walk_codes _ _ _ _ _ _ _ (Nat.le_refl _) hw with e | e <;> omega
  | ok p =>
    obtain ⟨r, n⟩ := p
    rw [hw] at h
    simp only at h ⊢
    by_cases hn : n = 5
    · subst hn
      rw [if_neg (by simp)] at h ⊢
      by_cases hf : FitsR r
      · rw [if_pos hf]
        obtain ⟨fs, i1, i2, i3, i4, -⟩ := walk3_sound _ _ _ _ _ _ _ (Nat.le_refl _) hw
        rw [rising5 i1 i2 (by omega)] at i4
        show Lib.uvarint 3 ++ encFs r [1, 2, 3, 4, 5] = _
        rw [← i4]
      · rw [if_neg hf] at h
        simp at h
    · rw [if_pos (by omega)] at h
      simp at h

/-- What stands behind the version, read. -/
theorem decR_at (v : Nat) (h1 : 1 ≤ v) (h3 : v ≤ 3) (X : List UInt8) : decR (Lib.uvarint v ++ X) = match walkV v X (-1) 0 zeroR with
    | .error e => (zeroR, e)
    | .ok (r, found) => if found ≠ v + 2 then (zeroR, 7) else if FitsR r then (r, 0) else (zeroR, 1) := by
  have hp := Lib.uvarint_pos v
  have hd := dec62_uvarint v X (by omega)
  unfold decR
  rw [if_neg (ne_nil_of (by rw [List.length_append]; omega)), hd]
  simp only
  rw [if_neg (by omega), if_neg (by omega), List.drop_left]

/-- Something behind it, in the newest version. -/
theorem decR_more {r : Rec} (hr : FitsR r) {t : List UInt8} (ht : t ≠ []) : (decR (encR 3 r ++ t)).2 ≠ 0 := by
  obtain ⟨a, b, -⟩ := fields_ok (v := 3) (by decide) (by decide)
  have hw : walkV 3 (encFs r (fieldsV 3) ++ t) (-1) 0 zeroR = walkV 3 t 5 5 ((fieldsV 3).foldl (setF r) zeroR) := walk_fs hr t (fieldsV 3) (-1) 0 zeroR a b
  have he : ∃ e : Int, walkV 3 t 5 5 ((fieldsV 3).foldl (setF r) zeroR) = .error e ∧ e ≠ 0 := by
    rw [walkV, dif_neg ht]
    by_cases hk : (dec62 t).2 = 0 ∨ ((dec62 t).1 : Int) ≤ 5
    · rw [dif_pos hk]
      exact ⟨3, rfl, by decide⟩
    · rw [dif_neg hk, if_neg (by unfold hasV; omega), if_pos (.inr rfl)]
      exact ⟨7, rfl, by decide⟩
  obtain ⟨e, he, h0⟩ := he
  have hE : encR 3 r ++ t = Lib.uvarint 3 ++ (encFs r (fieldsV 3) ++ t) := List.append_assoc ..
  rw [hE, decR_at 3 (by decide) (by decide), hw, he]
  exact h0

/-- A strange field. -/
theorem decR_strange {v : Int} (h1 : 1 ≤ v) (h3 : v ≤ 3) {r : Rec} (hr : FitsR r) (f : Nat) (hf0 : 16 ≤ f) (hf1 : f < 128) (d : List UInt8) (hd : d.length < 128) :
    decR (encR v r ++ (Lib.uvarint f ++ (Lib.uvarint d.length ++ d))) = if v = 3 then (zeroR, 7) else (upgR v r, 0) := by
  obtain ⟨a, b, n⟩ := fields_ok h1 h3
  have hw := walk_fs hr (Lib.uvarint f ++ (Lib.uvarint d.length ++ d)) (fieldsV v) (-1) 0 zeroR a b
  rw [fields_set h1 h3, n] at hw
  have hlast : lastOf (-1) (fieldsV v) ≤ 5 := by
    have hv : v = 1 ∨ v = 2 ∨ v = 3 := by omega
    rcases hv with rfl | rfl | rfl <;> decide
  have hp := Lib.uvarint_pos f
  have hp2 := Lib.uvarint_pos d.length
  have d1 := dec62_uvarint f (Lib.uvarint d.length ++ d) (by omega)
  have d2 := dec62_uvarint d.length d (by omega)
  have hE : encR v r ++ (Lib.uvarint f ++ (Lib.uvarint d.length ++ d)) = Lib.uvarint v.toNat ++ (encFs r (fieldsV v) ++ (Lib.uvarint f ++ (Lib.uvarint d.length ++ d))) := List.append_assoc ..
  rw [hE, decR_at v.toNat (by omega) (by omega), hw, walkV, dif_neg (ne_nil_of (by rw [List.length_append]; omega)), dif_neg (by rw [d1]; simp only; omega), d1]
  simp only
  rw [if_neg (by unfold hasV; omega)]
  by_cases hv : v = 3
  · subst hv
    rw [if_pos (.inr rfl), if_pos rfl]
  · rw [if_neg (by omega), if_neg hv, List.drop_left, d2]
    simp only
    rw [if_neg (by rw [List.length_append, List.length_append]; omega), show (Lib.uvarint f ++ (Lib.uvarint d.length ++ d)).drop ((Lib.uvarint f).length + (Lib.uvarint d.length).length + d.length) = [] from List.drop_of_length_le (by rw [List.length_append, List.length_append]; omega), walk_nil]
    simp only
    rw [if_neg (by omega), if_pos (upg_fits hr)]

theorem encR_upg {v : Int} (h1 : 1 ≤ v) (h3 : v ≤ 3) (r : Rec) : encR v (upgR v r) = encR v r := by
  have hv : v = 1 ∨ v = 2 ∨ v = 3 := by omega
  rcases hv with rfl | rfl | rfl <;> rfl

theorem upg_upg (v : Int) (r : Rec) : upgR v (upgR v r) = upgR v r := by
  unfold upgR
  simp only
  by_cases h1 : v < 2 <;> by_cases h2 : v < 3 <;> simp [h1, h2]

theorem upg_three (r : Rec) : upgR 3 r = r := rfl

/-- Two records have two texts just if their upgrades are two. -/
theorem encR_inj {v : Int} (h1 : 1 ≤ v) (h3 : v ≤ 3) {r s : Rec} (hr : FitsR r) (hs : FitsR s) : encR v r = encR v s ↔ upgR v r = upgR v s := by
  constructor
  · intro h
    have e1 := decR_enc h1 h3 hr
    rw [h, decR_enc h1 h3 hs] at e1
    injection e1 with e1
    exact e1.symm
  · intro h
    rw [← encR_upg h1 h3 r, h, encR_upg h1 h3 s]

theorem decR_nil : decR [] = (zeroR, 2) := by simp [decR]

end Go.Proofs.Ytiofhmlkgieclaa

/- Herlihy's engine as plain data, and what stays true of it. -/
namespace Go.Proofs.Ytiofhmlkgieclaa

/-- A function that is told anew at one place. -/
def putN {α : Type} (f : Nat → α) (k : Nat) (v : α) : Nat → α := fun j => if j = k then v else f j

theorem putN_same {α : Type} (f : Nat → α) (k : Nat) (v : α) : putN f k v k = v := if_pos rfl

theorem putN_other {α : Type} (f : Nat → α) {k j : Nat} (v : α) (h : j ≠ k) : putN f k v j = f j := if_neg h

/-- What a process does next. -/
inductive Nx where
  | rest | announce | readHead | readPlace | readOwn | readTurn | readTurns | decide | readNext | tellPlace | tellHead
deriving DecidableEq

/-- A process. -/
structure Pc where
  nx : Nx
  did : Nat
  began : Nat
  seq : Nat
  resp : Int
  own : Nat
  ato : Nat
  place : Nat
  asked : Nat
  other : Nat
  wanted : Nat

/-- A node. -/
structure Nd where
  proc : Nat
  seq : Nat
  op : Opn

def nd0 : Nd := ⟨0, 0, ⟨0, 0, 0⟩⟩

/-- An engine. -/
structure Eg where
  n : Nat
  nodes : List Nd
  ann : Nat → Nat
  head : Nat → Nat
  nxt : Nat → Nat
  plc : Nat → Nat
  log : List Rec
  st : St
  ps : Nat → Pc

def Eg.nd (e : Eg) (k : Nat) : Nd := e.nodes.getD k nd0

def newPc : Pc := ⟨.rest, 0, 0, 0, 0, 0, 0, 0, 0, 0, 0⟩

def newEg (s : St) (n : Nat) : Eg := ⟨n, [nd0], fun _ => 0, fun _ => 0, fun _ => 0, fun _ => 0, [], s, fun _ => newPc⟩

def beginE (e : Eg) (p : Nat) (o : Opn) : Eg :=
  { e with nodes := e.nodes ++ [⟨p, (e.ps p).seq + 1, o⟩], ps := putN e.ps p { e.ps p with nx := .announce, seq := (e.ps p).seq + 1, began := (e.ps p).did, own := e.nodes.length } }

def announceE (e : Eg) (p : Nat) : Eg :=
  { e with ann := putN e.ann p (e.ps p).own, ps := putN e.ps p { e.ps p with nx := .readHead, did := (e.ps p).did + 1, asked := 0 } }

def readHeadE (e : Eg) (p : Nat) : Eg :=
  { e with ps := putN e.ps p { e.ps p with nx := .readPlace, did := (e.ps p).did + 1, other := e.head (e.ps p).asked } }

def readPlaceE (e : Eg) (p : Nat) : Eg :=
  { e with ps := putN e.ps p { e.ps p with
      nx := if (e.ps p).asked + 1 < e.n then .readHead else .readOwn
      did := (e.ps p).did + 1
      ato := if (e.ps p).place < e.plc (e.ps p).other then (e.ps p).other else (e.ps p).ato
      place := if (e.ps p).place < e.plc (e.ps p).other then e.plc (e.ps p).other else (e.ps p).place
      asked := (e.ps p).asked + 1 } }

def readOwnE (e : Eg) (p : Nat) : Eg :=
  if e.plc (e.ps p).own = 0 then { e with ps := putN e.ps p { e.ps p with nx := .readTurn, did := (e.ps p).did + 1 } }
  else { e with ps := putN e.ps p { e.ps p with nx := .rest, did := (e.ps p).did + 1, resp := (e.log.getD (e.plc (e.ps p).own - 1) zeroR).resp } }

def readTurnE (e : Eg) (p : Nat) : Eg :=
  { e with ps := putN e.ps p { e.ps p with
      nx := if e.ann ((e.ps p).place % e.n) = 0 then .decide else .readTurns
      did := (e.ps p).did + 1
      other := e.ann ((e.ps p).place % e.n)
      wanted := (e.ps p).own } }

def readTurnsE (e : Eg) (p : Nat) : Eg :=
  { e with ps := putN e.ps p { e.ps p with nx := .decide, did := (e.ps p).did + 1, wanted := if e.plc (e.ps p).other = 0 then (e.ps p).other else (e.ps p).wanted } }

/-- A node takes effect. -/
def effectE (e : Eg) (k : Nat) : Eg :=
  { e with st := (stepO e.st (e.nd k).op).1, log := e.log ++ [⟨e.log.length, (e.nd k).proc, (e.nd k).seq, (e.nd k).op, (stepO e.st (e.nd k).op).2⟩] }

def decideE (e : Eg) (p : Nat) : Eg :=
  if e.nxt (e.ps p).ato = 0 then
    { effectE e (e.ps p).wanted with nxt := putN e.nxt (e.ps p).ato (e.ps p).wanted, ps := putN e.ps p { e.ps p with nx := .tellPlace, did := (e.ps p).did + 1, ato := (e.ps p).wanted } }
  else { e with ps := putN e.ps p { e.ps p with nx := .readNext, did := (e.ps p).did + 1 } }

def readNextE (e : Eg) (p : Nat) : Eg :=
  { e with ps := putN e.ps p { e.ps p with nx := .tellPlace, did := (e.ps p).did + 1, ato := e.nxt (e.ps p).ato } }

def tellPlaceE (e : Eg) (p : Nat) : Eg :=
  { e with plc := putN e.plc (e.ps p).ato ((e.ps p).place + 1), ps := putN e.ps p { e.ps p with nx := .tellHead, did := (e.ps p).did + 1, place := (e.ps p).place + 1 } }

def tellHeadE (e : Eg) (p : Nat) : Eg :=
  { e with head := putN e.head p (e.ps p).ato, ps := putN e.ps p { e.ps p with nx := .readOwn, did := (e.ps p).did + 1 } }

/-- A step of a process. -/
def goE (e : Eg) (p : Nat) : Eg :=
  match (e.ps p).nx with
  | .rest => e
  | .announce => announceE e p
  | .readHead => readHeadE e p
  | .readPlace => readPlaceE e p
  | .readOwn => readOwnE e p
  | .readTurn => readTurnE e p
  | .readTurns => readTurnsE e p
  | .decide => decideE e p
  | .readNext => readNextE e p
  | .tellPlace => tellPlaceE e p
  | .tellHead => tellHeadE e p

/-- What no cell tells: how long the list is, which node stands at each place, how long it was when a process announced. -/
structure Gh where
  L : Nat
  pa : Nat → Nat
  aL : Nat → Nat

def InPath (g : Gh) (k : Nat) : Prop := ∃ i, i ≤ g.L ∧ g.pa i = k

def Told (e : Eg) (g : Gh) (i : Nat) : Prop := ∀ j, j ≤ i → e.plc (g.pa j) = j

def OutTo (g : Gh) (i k : Nat) : Prop := ∀ j, j ≤ i → g.pa j ≠ k

/-- The list itself. -/
structure InvG (e : Eg) (g : Gh) : Prop where
  n1 : 1 ≤ e.n
  pa0 : g.pa 0 = 0
  lt : ∀ i, i ≤ g.L → g.pa i < e.nodes.length
  inj : ∀ i j, i ≤ g.L → j ≤ g.L → g.pa i = g.pa j → i = j
  nxt : ∀ i, i < g.L → e.nxt (g.pa i) = g.pa (i + 1)
  last : e.nxt (g.pa g.L) = 0
  nxt0 : ∀ k, ¬ InPath g k → e.nxt k = 0
  plc : ∀ i, i ≤ g.L → e.plc (g.pa i) = 0 ∨ e.plc (g.pa i) = i
  plc0 : ∀ k, ¬ InPath g k → e.plc k = 0
  len : e.log.length = g.L
  log : ∀ i, i < g.L → ∃ x, e.log[i]? = some ⟨i, (e.nd (g.pa (i + 1))).proc, (e.nd (g.pa (i + 1))).seq, (e.nd (g.pa (i + 1))).op, x⟩
  st : MayS e.st

/-- The nodes, and whose they are. -/
structure InvN (e : Eg) (g : Gh) : Prop where
  proc : ∀ k, 1 ≤ k → k < e.nodes.length → (e.nd k).proc < e.n ∧ 1 ≤ (e.nd k).seq ∧ (e.nd k).seq ≤ (e.ps (e.nd k).proc).seq
  uniq : ∀ k k', 1 ≤ k → k < e.nodes.length → 1 ≤ k' → k' < e.nodes.length → (e.nd k).proc = (e.nd k').proc → (e.nd k).seq = (e.nd k').seq → k = k'
  old : ∀ k, 1 ≤ k → k < e.nodes.length → ¬ InPath g k → (e.ps (e.nd k).proc).own = k ∧ (e.ps (e.nd k).proc).nx ≠ .rest
  own : ∀ p, p < e.n → (e.ps p).nx ≠ .rest → 1 ≤ (e.ps p).own ∧ (e.ps p).own < e.nodes.length ∧ (e.nd (e.ps p).own).proc = p ∧ (e.nd (e.ps p).own).seq = (e.ps p).seq
  ann : ∀ p, p < e.n → e.ann p < e.nodes.length
  ann' : ∀ p, p < e.n → (e.ps p).nx ≠ .rest → (e.ps p).nx ≠ .announce → e.ann p = (e.ps p).own

/-- Each process. -/
structure InvP (e : Eg) (g : Gh) (p : Nat) (q : Pc) : Prop where
  pl : q.place ≤ g.L
  told : Told e g q.place
  at1 : q.nx ≠ .tellPlace → q.ato = g.pa q.place
  at2 : q.nx = .tellPlace → q.place < g.L ∧ q.ato = g.pa (q.place + 1)
  hd : ∃ i, i ≤ q.place ∧ e.head p = g.pa i ∧ (q.nx = .tellHead → i < q.place)
  asked : q.nx = .readHead ∨ q.nx = .readPlace → q.asked < e.n
  other : q.nx = .readPlace → ∃ i, i ≤ g.L ∧ Told e g i ∧ q.other = g.pa i ∧ ∃ r i', r < e.n ∧ i ≤ i' ∧ i' ≤ g.L ∧ e.head r = g.pa i'
  out : q.nx = .readTurn ∨ q.nx = .readTurns ∨ q.nx = .decide ∨ q.nx = .readNext ∨ q.nx = .tellPlace → OutTo g q.place q.own
  turns : q.nx = .readTurns → 1 ≤ q.other ∧ q.other < e.nodes.length ∧ q.wanted = q.own
  dec : q.nx = .decide → 1 ≤ q.wanted ∧ q.wanted < e.nodes.length ∧ OutTo g q.place q.wanted
  nxt : q.nx = .readNext → q.place < g.L

def lagOf (q : Pc) : Nat := if q.nx = .tellHead then q.place - 1 else q.place

/-- How far the heads are. -/
structure InvH (e : Eg) (g : Gh) : Prop where
  front : ∃ r i, r < e.n ∧ i ≤ g.L ∧ g.L ≤ i + 1 ∧ e.head r = g.pa i
  lag : ∀ q, q < e.n → ∃ r i, r < e.n ∧ i ≤ g.L ∧ lagOf (e.ps q) ≤ i ∧ e.head r = g.pa i

/-- Who helps. -/
structure InvB (e : Eg) (g : Gh) (p : Nat) : Prop where
  aL : g.aL p ≤ g.L
  help1 : ∀ r, r < e.n → (e.ps r).nx = .readTurns → (e.ps r).place % e.n = p → g.aL p < (e.ps r).place → (e.ps r).other = (e.ps p).own
  help2 : ∀ r, r < e.n → (e.ps r).nx = .decide → (e.ps r).place % e.n = p → g.aL p < (e.ps r).place → (e.ps r).wanted = (e.ps p).own ∨ InPath g (e.ps p).own
  turn : ∀ j, g.aL p < j → j % e.n = p → j < g.L → ∃ i, i ≤ j + 1 ∧ g.pa i = (e.ps p).own

/-- How many steps. -/
def InvS (e : Eg) (g : Gh) (p : Nat) (q : Pc) : Prop :=
  match q.nx with
  | .rest => q.began ≤ q.did ∧ q.did ≤ q.began + 9 * e.n + 16
  | .announce => q.did = q.began
  | .readHead => q.did = q.began + 1 + 2 * q.asked ∧ ((∃ r i, q.asked ≤ r ∧ r < e.n ∧ i ≤ g.L ∧ e.head r = g.pa i ∧ g.aL p ≤ i + 1) ∨ g.aL p ≤ q.place + 1)
  | .readPlace => q.did = q.began + 2 + 2 * q.asked ∧ ((∃ r i, q.asked < r ∧ r < e.n ∧ i ≤ g.L ∧ e.head r = g.pa i ∧ g.aL p ≤ i + 1) ∨ (∃ i, i ≤ g.L ∧ Told e g i ∧ q.other = g.pa i ∧ g.aL p ≤ i + 1) ∨ g.aL p ≤ q.place + 1)
  | .readOwn => q.began ≤ q.did ∧ q.did + 7 * g.aL p ≤ q.began + 2 * e.n + 1 + 7 * (q.place + 1) ∧ q.did ≤ q.began + 9 * e.n + 15
  | .readTurn => q.began ≤ q.did ∧ q.did + 7 * g.aL p ≤ q.began + 2 * e.n + 2 + 7 * (q.place + 1)
  | .readTurns => q.began ≤ q.did ∧ q.did + 7 * g.aL p ≤ q.began + 2 * e.n + 3 + 7 * (q.place + 1)
  | .decide => q.began ≤ q.did ∧ q.did + 7 * g.aL p ≤ q.began + 2 * e.n + 4 + 7 * (q.place + 1)
  | .readNext => q.began ≤ q.did ∧ q.did + 7 * g.aL p ≤ q.began + 2 * e.n + 5 + 7 * (q.place + 1)
  | .tellPlace => q.began ≤ q.did ∧ q.did + 7 * g.aL p ≤ q.began + 2 * e.n + 6 + 7 * (q.place + 1)
  | .tellHead => q.began ≤ q.did ∧ q.did + 7 * g.aL p ≤ q.began + 2 * e.n + 7 * (q.place + 1) ∧ q.place ≤ g.aL p + e.n + 1

structure Inv (e : Eg) (g : Gh) : Prop where
  G : InvG e g
  N : InvN e g
  P : ∀ p, p < e.n → InvP e g p (e.ps p)
  H : InvH e g
  B : ∀ p, p < e.n → (e.ps p).nx ≠ .rest → (e.ps p).nx ≠ .announce → InvB e g p
  S : ∀ p, p < e.n → InvS e g p (e.ps p)

theorem newEg_inv (s : St) (hs : MayS s) (n : Nat) (h1 : 1 ≤ n) : Inv (newEg s n) ⟨0, fun _ => 0, fun _ => 0⟩ := by
  refine ⟨⟨h1, rfl, ?_, ?_, ?_, rfl, fun _ _ => rfl, fun _ _ => .inl rfl, fun _ _ => rfl, rfl, ?_, hs⟩, ⟨?_, ?_, ?_, ?_, ?_, ?_⟩, ?_, ⟨⟨0, 0, h1, Nat.le_refl _, by simp, rfl⟩, fun q hq => ⟨0, 0, h1, Nat.le_refl _, Nat.le_refl _, rfl⟩⟩, ?_, ?_⟩
  · intro i hi; simp [newEg]
  · intro i j hi hj _; simp at hi hj; omega
  · intro i hi; simp at hi
  · intro i hi; simp at hi
  · intro k h0 h1; simp [newEg] at h1; omega
  · intro k k' h0 h1; simp [newEg] at h1; omega
  · intro k h0 h1; simp [newEg] at h1; omega
  · intro p _ hp; exact absurd rfl hp
  · intro p _; simp [newEg]
  · intro p _ hp; exact absurd rfl hp
  · intro p _
    refine ⟨Nat.le_refl _, fun j hj => ?_, fun _ => rfl, nofun, ⟨0, Nat.le_refl _, rfl, nofun⟩, nofun, nofun, nofun, nofun, nofun, nofun⟩
    simp [newEg, newPc] at hj ⊢
    omega
  · intro p _ hp; exact absurd rfl hp
  · intro p _
    exact ⟨Nat.le_refl _, by simp [newEg, newPc]⟩

end Go.Proofs.Ytiofhmlkgieclaa

/- What stays true of Herlihy's engine, whatever step is done. -/
namespace Go.Proofs.Ytiofhmlkgieclaa

/-- All that was true of the list stays true of what it has become. -/
structure Ext (e : Eg) (g : Gh) (e' : Eg) (g' : Gh) : Prop where
  n : e'.n = e.n
  L : g.L ≤ g'.L
  pa : ∀ i, i ≤ g.L → g'.pa i = g.pa i
  plc : ∀ i, i ≤ g.L → e.plc (g.pa i) = i → e'.plc (g.pa i) = i
  len : e.nodes.length ≤ e'.nodes.length
  head : ∀ r i, r < e.n → i ≤ g.L → e.head r = g.pa i → ∃ i', i ≤ i' ∧ i' ≤ g'.L ∧ e'.head r = g'.pa i'

theorem Told.ext {e e' : Eg} {g g' : Gh} {i : Nat} (h : Told e g i) (x : Ext e g e' g') (hi : i ≤ g.L) : Told e' g' i := by
  intro j hj
  rw [x.pa j (by omega)]
  exact x.plc j (by omega) (h j hj)

theorem OutTo.ext {e e' : Eg} {g g' : Gh} {i k : Nat} (h : OutTo g i k) (x : Ext e g e' g') (hi : i ≤ g.L) : OutTo g' i k := by
  intro j hj
  rw [x.pa j (by omega)]
  exact h j hj

theorem InPath.ext {e e' : Eg} {g g' : Gh} {k : Nat} (h : InPath g k) (x : Ext e g e' g') : InPath g' k := by
  obtain ⟨i, hi, hk⟩ := h
  exact ⟨i, Nat.le_trans hi x.L, by rw [x.pa i hi]; exact hk⟩

theorem InvP.ext {e e' : Eg} {g g' : Gh} {p : Nat} {q : Pc} (h : InvP e g p q) (x : Ext e g e' g') (hh : e'.head p = e.head p) : InvP e' g' p q := by
  have hpl := h.pl
  have hL := x.L
  refine ⟨Nat.le_trans h.pl x.L, h.told.ext x h.pl, fun a => ?_, fun a => ?_, ?_, fun a => by rw [x.n]; exact h.asked a, fun a => ?_, fun a => (h.out a).ext x h.pl, fun a => ?_, fun a => ?_, fun a => ?_⟩
  · rw [x.pa _ h.pl]; exact h.at1 a
  · have := h.at2 a
    exact ⟨by omega, by rw [x.pa _ (by omega)]; exact this.2⟩
  · obtain ⟨i, hi, h1, h2⟩ := h.hd
    exact ⟨i, hi, by rw [hh, x.pa _ (by omega)]; exact h1, h2⟩
  · obtain ⟨i, hi, h1, h2, r, i', hr, h3, h4, h5⟩ := h.other a
    obtain ⟨i2, h6, h7, h8⟩ := x.head r i' hr h4 h5
    exact ⟨i, by omega, h1.ext x hi, by rw [x.pa _ hi]; exact h2, r, i2, by rw [x.n]; exact hr, by omega, h7, h8⟩
  · have := h.turns a
    have := x.len
    exact ⟨by omega, by omega, by omega⟩
  · obtain ⟨h1, h2, h3⟩ := h.dec a
    have := x.len
    exact ⟨h1, by omega, h3.ext x h.pl⟩
  · have := h.nxt a
    omega

theorem some_head {e e' : Eg} {g g' : Gh} (x : Ext e g e' g') {a m : Nat} (h : ∃ r i, a ≤ r ∧ r < e.n ∧ i ≤ g.L ∧ e.head r = g.pa i ∧ m ≤ i + 1) : ∃ r i, a ≤ r ∧ r < e'.n ∧ i ≤ g'.L ∧ e'.head r = g'.pa i ∧ m ≤ i + 1 := by
  obtain ⟨r, i, h1, h2, h3, h4, h5⟩ := h
  obtain ⟨i2, h6, h7, h8⟩ := x.head r i h2 h3 h4
  exact ⟨r, i2, h1, by rw [x.n]; exact h2, h7, h8, by omega⟩

theorem InvS.ext {e e' : Eg} {g g' : Gh} {p : Nat} {q : Pc} (h : InvS e g p q) (x : Ext e g e' g') (ha : g'.aL p = g.aL p) : InvS e' g' p q := by
  unfold InvS at h ⊢
  rw [ha, x.n]
  split <;> rename_i hx <;> rw [hx] at h <;> dsimp only at h
  · exact h
  · exact h
  · refine ⟨h.1, h.2.imp (fun a => ?_) id⟩
    have := some_head x a
    rw [x.n] at this
    exact this
  · refine ⟨h.1, h.2.imp (fun a => ?_) fun a => a.imp ?_ id⟩
    · have := some_head x (a := q.asked + 1) a
      rw [x.n] at this
      exact this
    · rintro ⟨i, hi, h1, h2, h3⟩
      exact ⟨i, Nat.le_trans hi x.L, h1.ext x hi, by rw [x.pa _ hi]; exact h2, h3⟩
  all_goals exact h

/-- Whoever stepped, and whatever it did. -/
theorem Inv.step {e e' : Eg} {g g' : Gh} {p : Nat} {q' : Pc} (h : Inv e g) (x : Ext e g e' g') (hps : e'.ps = putN e.ps p q') (hhead : ∀ r, r ≠ p → e'.head r = e.head r)
    (haL : ∀ r, r ≠ p → g'.aL r = g.aL r) (G : InvG e' g') (N : InvN e' g') (P : InvP e' g' p q') (H : InvH e' g')
    (B : ∀ r, r < e.n → (e'.ps r).nx ≠ .rest → (e'.ps r).nx ≠ .announce → InvB e' g' r) (S : InvS e' g' p q') : Inv e' g' := by
  refine ⟨G, N, fun r hr => ?_, H, fun r hr => B r (by rw [← x.n]; exact hr), fun r hr => ?_⟩
  · rw [hps]
    by_cases a : r = p
    · subst a
      rw [putN_same]
      exact P
    · rw [putN_other _ _ a]
      exact (h.P r (by rw [← x.n]; exact hr)).ext x (hhead r a)
  · rw [hps]
    by_cases a : r = p
    · subst a
      rw [putN_same]
      exact S
    · rw [putN_other _ _ a]
      exact (h.S r (by rw [← x.n]; exact hr)).ext x (haL r a)

theorem InvN.step {e e' : Eg} {g g' : Gh} {p : Nat} {q' : Pc} (h : InvN e g) (hp : p < e.n) (hn : e'.n = e.n) (hnodes : e'.nodes = e.nodes) (hpath : ∀ k, InPath g k → InPath g' k)
    (hps : e'.ps = putN e.ps p q') (ho : q'.own = (e.ps p).own) (hs : q'.seq = (e.ps p).seq) (hb : (e.ps p).nx ≠ .rest) (hr : q'.nx = .rest → InPath g' q'.own)
    (hann : ∀ r, r ≠ p → e'.ann r = e.ann r) (hannp : e'.ann p = q'.own) : InvN e' g' := by
  have hnd : ∀ k, e'.nd k = e.nd k := fun k => by unfold Eg.nd; rw [hnodes]
  have hown : ∀ r, (e'.ps r).own = (e.ps r).own := fun r => by
    rw [hps]
    by_cases a : r = p
    · subst a; rw [putN_same, ho]
    · rw [putN_other _ _ a]
  have hseq : ∀ r, (e'.ps r).seq = (e.ps r).seq := fun r => by
    rw [hps]
    by_cases a : r = p
    · subst a; rw [putN_same, hs]
    · rw [putN_other _ _ a]
  have hbusy : ∀ r, (e'.ps r).nx ≠ .rest → (e.ps r).nx ≠ .rest := fun r hr => by
    by_cases a : r = p
    · subst a; exact hb
    · rw [hps, putN_other _ _ a] at hr; exact hr
  refine ⟨?_, ?_, ?_, ?_, ?_, ?_⟩
  · intro k h1 h2
    rw [hnodes] at h2
    rw [hnd, hn, hseq]
    exact h.proc k h1 h2
  · intro k k' h1 h2 h3 h4
    rw [hnodes] at h2 h4
    rw [hnd, hnd]
    exact h.uniq k k' h1 h2 h3 h4
  · intro k h1 h2 h3
    rw [hnodes] at h2
    have h4 := h.old k h1 h2 fun a => h3 (hpath k a)
    rw [hnd, hown]
    refine ⟨h4.1, ?_⟩
    by_cases a : (e.nd k).proc = p
    · rw [hps, a, putN_same]
      intro a2
      refine h3 ?_
      have := hr a2
      rw [ho] at this
      rw [← h4.1, a]
      exact this
    · rw [hps, putN_other _ _ a]
      exact h4.2
  · intro r h1 h2
    rw [hn] at h1
    rw [hown, hnodes, hnd, hseq]
    exact h.own r h1 (hbusy r h2)
  · intro r h1
    rw [hn] at h1
    rw [hnodes]
    by_cases a : r = p
    · subst a
      rw [hannp, ho]
      exact (h.own r h1 hb).2.1
    · rw [hann r a]
      exact h.ann r h1
  · intro r h1 h2 h3
    rw [hn] at h1
    rw [hown]
    by_cases a : r = p
    · subst a
      rw [hannp, ho]
    · rw [hps, putN_other _ _ a] at h2 h3
      rw [hann r a]
      exact h.ann' r h1 h2 h3

/-- Processes that had announced are helped as before, if the one that stepped helps. -/
theorem InvB.step {e e' : Eg} {g g' : Gh} {p r : Nat} {q' : Pc} (h : InvB e g r) (x : Ext e g e' g') (hps : e'.ps = putN e.ps p q') (ho : (e'.ps r).own = (e.ps r).own)
    (ha : g'.aL r = g.aL r)
    (h1 : q'.nx = .readTurns → q'.place % e.n = r → g.aL r < q'.place → q'.other = (e.ps r).own)
    (h2 : q'.nx = .decide → q'.place % e.n = r → g.aL r < q'.place → q'.wanted = (e.ps r).own ∨ InPath g' (e.ps r).own)
    (ht : ∀ j, g.aL r < j → j % e.n = r → j < g'.L → ∃ i, i ≤ j + 1 ∧ g'.pa i = (e.ps r).own) : InvB e' g' r := by
  refine ⟨by rw [ha]; exact Nat.le_trans h.aL x.L, ?_, ?_, ?_⟩
  · intro k hk
    rw [x.n] at hk ⊢
    rw [ha, ho, hps]
    by_cases a : k = p
    · subst a
      rw [putN_same]
      exact h1
    · rw [putN_other _ _ a]
      exact h.help1 k hk
  · intro k hk
    rw [x.n] at hk ⊢
    rw [ha, ho, hps]
    by_cases a : k = p
    · subst a
      rw [putN_same]
      exact h2
    · rw [putN_other _ _ a]
      exact fun b1 b2 b3 => (h.help2 k hk b1 b2 b3).imp id fun b => b.ext x
  · intro j
    rw [x.n, ha, ho]
    exact ht j

theorem InvH.step {e e' : Eg} {g g' : Gh} {p : Nat} {q' : Pc} (h : InvH e g) (x : Ext e g e' g') (hps : e'.ps = putN e.ps p q') (hL : g'.L = g.L)
    (hlag : lagOf q' ≤ lagOf (e.ps p) ∨ ∃ r i, r < e.n ∧ i ≤ g'.L ∧ lagOf q' ≤ i ∧ e'.head r = g'.pa i) (hp : p < e.n) : InvH e' g' := by
  refine ⟨?_, ?_⟩
  · obtain ⟨r, i, h1, h2, h3, h4⟩ := h.front
    obtain ⟨i2, h6, h7, h8⟩ := x.head r i h1 h2 h4
    exact ⟨r, i2, by rw [x.n]; exact h1, h7, by omega, h8⟩
  · intro k hk
    rw [x.n] at hk ⊢
    have old : ∀ m, m ≤ lagOf (e.ps k) → ∃ r i, r < e.n ∧ i ≤ g'.L ∧ m ≤ i ∧ e'.head r = g'.pa i := by
      intro m hm
      obtain ⟨r, i, h1, h2, h3, h4⟩ := h.lag k hk
      obtain ⟨i2, h6, h7, h8⟩ := x.head r i h1 h2 h4
      exact ⟨r, i2, h1, h7, by omega, h8⟩
    rw [hps]
    by_cases a : k = p
    · subst a
      rw [putN_same]
      rcases hlag with b | b
      · exact old _ b
      · exact b
    · rw [putN_other _ _ a]
      exact old _ (Nat.le_refl _)

/-- Only what a process itself knows has changed. -/
theorem ext_self (e : Eg) (g : Gh) (f : Nat → Pc) : Ext e g { e with ps := f } g :=
  ⟨rfl, Nat.le_refl _, fun _ _ => rfl, fun _ _ h => h, Nat.le_refl _, fun _ i _ h1 h2 => ⟨i, Nat.le_refl _, h1, h2⟩⟩

theorem InvG.self {e : Eg} {g : Gh} (h : InvG e g) (f : Nat → Pc) : InvG { e with ps := f } g :=
  ⟨h.n1, h.pa0, h.lt, h.inj, h.nxt, h.last, h.nxt0, h.plc, h.plc0, h.len, h.log, h.st⟩

theorem Inv.self {e : Eg} {g : Gh} {p : Nat} {q' : Pc} (h : Inv e g) (hp : p < e.n) (ho : q'.own = (e.ps p).own) (hs : q'.seq = (e.ps p).seq) (hb : (e.ps p).nx ≠ .rest) (hb' : (e.ps p).nx ≠ .announce)
    (hr : q'.nx = .rest → InPath g q'.own) (P : InvP e g p q') (S : InvS e g p q')
    (hlag : lagOf q' ≤ lagOf (e.ps p) ∨ ∃ r i, r < e.n ∧ i ≤ g.L ∧ lagOf q' ≤ i ∧ e.head r = g.pa i)
    (h1 : q'.nx = .readTurns → ∀ r, r < e.n → (e.ps r).nx ≠ .rest → (e.ps r).nx ≠ .announce → q'.place % e.n = r → g.aL r < q'.place → q'.other = (e.ps r).own)
    (h2 : q'.nx = .decide → ∀ r, r < e.n → (e.ps r).nx ≠ .rest → (e.ps r).nx ≠ .announce → q'.place % e.n = r → g.aL r < q'.place → q'.wanted = (e.ps r).own ∨ InPath g (e.ps r).own) :
    Inv { e with ps := putN e.ps p q' } g := by
  have x := ext_self e g (putN e.ps p q')
  refine h.step x rfl (fun _ _ => rfl) (fun _ _ => rfl) (h.G.self _) (h.N.step hp rfl rfl (fun _ a => a) rfl ho hs hb hr (fun _ _ => rfl) ?_) (P.ext x rfl) (h.H.step x rfl rfl hlag hp) ?_ (S.ext x rfl)
  · rw [ho]
    exact h.N.ann' p hp hb hb'
  · intro r hr h3 h4
    have hown : (putN e.ps p q' r).own = (e.ps r).own := by
      by_cases a : r = p
      · subst a; rw [putN_same, ho]
      · rw [putN_other _ _ a]
    have hb3 : (e.ps r).nx ≠ .rest ∧ (e.ps r).nx ≠ .announce := by
      by_cases a : r = p
      · subst a; exact ⟨hb, hb'⟩
      · have e1 : putN e.ps p q' r = e.ps r := putN_other _ _ a
        have h3' : (putN e.ps p q' r).nx ≠ .rest := h3
        have h4' : (putN e.ps p q' r).nx ≠ .announce := h4
        rw [e1] at h3' h4'
        exact ⟨h3', h4'⟩
    have hB := h.B r hr hb3.1 hb3.2
    exact hB.step x rfl hown rfl (fun a => h1 a r hr hb3.1 hb3.2) (fun a => h2 a r hr hb3.1 hb3.2) hB.turn

end Go.Proofs.Ytiofhmlkgieclaa

/- Each step of Herlihy's engine keeps what is true of it. -/
namespace Go.Proofs.Ytiofhmlkgieclaa

theorem told_eq {e : Eg} {g : Gh} {i : Nat} (h : Told e g i) : e.plc (g.pa i) = i := h i (Nat.le_refl _)

/-- Who reads that a node stands nowhere knows that it is none of those that it has passed. -/
theorem out_of {e : Eg} {g : Gh} (h : InvG e g) {i k : Nat} (ht : Told e g i) (hk : 1 ≤ k) (h0 : e.plc k = 0) : OutTo g i k := by
  intro j hj a
  have h1 := ht j hj
  rw [a, h0] at h1
  subst h1
  rw [h.pa0] at a
  omega

theorem path_of {e : Eg} {g : Gh} (h : InvG e g) {k : Nat} (h0 : e.plc k ≠ 0) : InPath g k := Classical.byContradiction fun a => h0 (h.plc0 k a)

theorem announced_own {e : Eg} {g : Gh} (h : Inv e g) {r : Nat} (hr : r < e.n) (h1 : (e.ps r).nx ≠ .rest) (h2 : (e.ps r).nx ≠ .announce) : e.ann r = (e.ps r).own ∧ 1 ≤ (e.ps r).own :=
  ⟨h.N.ann' r hr h1 h2, (h.N.own r hr h1).1⟩

theorem readHead_inv {e : Eg} {g : Gh} {p : Nat} (h : Inv e g) (hp : p < e.n) (hx : (e.ps p).nx = .readHead) : Inv (readHeadE e p) g := by
  have P := h.P p hp
  have S := h.S p hp
  unfold InvS at S
  rw [hx] at S
  dsimp only at S
  have ha := P.asked (.inl hx)
  have PA := h.P _ ha
  obtain ⟨i, hi, h1, -⟩ := PA.hd
  have hiL : i ≤ g.L := by have := PA.pl; omega
  have ti : Told e g i := fun j hj => PA.told j (by omega)
  refine h.self hp rfl rfl (by rw [hx]; nofun) (by rw [hx]; nofun) nofun ⟨P.pl, P.told, fun _ => P.at1 (by rw [hx]; nofun), nofun, ?_, fun _ => ha, fun _ => ⟨i, hiL, ti, h1, _, i, ha, Nat.le_refl _, hiL, h1⟩, nofun, nofun, nofun, nofun⟩ ?_ (.inl ?_) nofun nofun
  · obtain ⟨i, a, b, _⟩ := P.hd
    exact ⟨i, a, b, nofun⟩
  · unfold InvS
    dsimp only
    refine ⟨by omega, ?_⟩
    rcases S.2 with ⟨r, i2, h3, h4, h5, h6, h7⟩ | h3
    · by_cases a : r = (e.ps p).asked
      · subst a
        have : i = i2 := h.G.inj i i2 hiL h5 (h1.symm.trans h6)
        subst this
        exact .inr (.inl ⟨i, hiL, ti, h1, h7⟩)
      · exact .inl ⟨r, i2, by omega, h4, h5, h6, h7⟩
    · exact .inr (.inr h3)
  · unfold lagOf
    rw [hx]
    simp

theorem readPlace_inv {e : Eg} {g : Gh} {p : Nat} (h : Inv e g) (hp : p < e.n) (hx : (e.ps p).nx = .readPlace) : Inv (readPlaceE e p) g := by
  have P := h.P p hp
  have S := h.S p hp
  unfold InvS at S
  rw [hx] at S
  dsimp only at S
  have ha := P.asked (.inr hx)
  obtain ⟨i, hiL, ti, h1, r, i', hr, hii, hi', h2⟩ := P.other hx
  have hpl : e.plc (e.ps p).other = i := by rw [h1]; exact told_eq ti
  have hato := P.at1 (by rw [hx]; nofun)
  have nx1 : ∀ c : Nx, c ≠ .readHead → c ≠ .readOwn → (if (e.ps p).asked + 1 < e.n then Nx.readHead else Nx.readOwn) = c → False := by
    intro c c1 c2 c3
    split at c3
    · exact c1 c3.symm
    · exact c2 c3.symm
  unfold readPlaceE
  rw [hpl]
  refine h.self hp rfl rfl (by rw [hx]; nofun) (by rw [hx]; nofun) (fun a => (nx1 _ (by nofun) (by nofun) a).elim) ⟨?_, ?_, ?_, fun a => (nx1 _ (by nofun) (by nofun) a).elim, ?_, ?_, fun a => (nx1 _ (by nofun) (by nofun) a).elim, fun a => ?_, fun a => (nx1 _ (by nofun) (by nofun) a).elim, fun a => (nx1 _ (by nofun) (by nofun) a).elim, fun a => (nx1 _ (by nofun) (by nofun) a).elim⟩ ?_ ?_
      (fun a => (nx1 _ (by nofun) (by nofun) a).elim) (fun a => (nx1 _ (by nofun) (by nofun) a).elim)
  · dsimp only
    split
    · exact hiL
    · exact P.pl
  · dsimp only
    split
    · exact ti
    · exact P.told
  · intro _
    dsimp only
    split
    · exact h1
    · exact hato
  · obtain ⟨j, hj, h3, _⟩ := P.hd
    refine ⟨j, ?_, h3, fun a => (nx1 _ (by nofun) (by nofun) a).elim⟩
    dsimp only
    split <;> omega
  · intro a
    dsimp only at a ⊢
    rcases a with a | a
    · split at a
      · assumption
      · cases a
    · exact (nx1 _ (by nofun) (by nofun) a).elim
  · rcases a with a | a | a | a | a <;> exact (nx1 _ (by nofun) (by nofun) a).elim
  · have hp1 : (e.ps p).place ≤ (if (e.ps p).place < i then i else (e.ps p).place) ∧ i ≤ (if (e.ps p).place < i then i else (e.ps p).place) := by split <;> omega
    have hlow : ((∃ r i, (e.ps p).asked < r ∧ r < e.n ∧ i ≤ g.L ∧ e.head r = g.pa i ∧ g.aL p ≤ i + 1) ∨ g.aL p ≤ (if (e.ps p).place < i then i else (e.ps p).place) + 1) := by
      rcases S.2 with a | ⟨j, hj, _, h3, h4⟩ | a
      · exact .inl a
      · have : i = j := h.G.inj i j hiL hj (h1.symm.trans h3)
        right; omega
      · right; omega
    unfold InvS
    dsimp only
    by_cases a : (e.ps p).asked + 1 < e.n
    · rw [if_pos a]
      dsimp only
      exact ⟨by omega, hlow⟩
    · rw [if_neg a]
      dsimp only
      rcases hlow with ⟨r, _, h5, h6, _⟩ | hlow
      · omega
      · exact ⟨by omega, by omega, by omega⟩
  · have e1 : lagOf (e.ps p) = (e.ps p).place := by unfold lagOf; rw [hx]; simp
    have e2 : ∀ q : Pc, q.nx = (if (e.ps p).asked + 1 < e.n then Nx.readHead else Nx.readOwn) → lagOf q = q.place := by
      intro q hq
      unfold lagOf
      rw [if_neg]
      intro a
      exact nx1 _ (by nofun) (by nofun) (hq.symm.trans a)
    rw [e1, e2 _ rfl]
    dsimp only
    split
    · exact .inr ⟨r, i', hr, hi', hii, h2⟩
    · exact .inl (Nat.le_refl _)

theorem readOwn_inv {e : Eg} {g : Gh} {p : Nat} (h : Inv e g) (hp : p < e.n) (hx : (e.ps p).nx = .readOwn) : Inv (readOwnE e p) g := by
  have P := h.P p hp
  have S := h.S p hp
  unfold InvS at S
  rw [hx] at S
  dsimp only at S
  have hown := h.N.own p hp (by rw [hx]; nofun)
  have e1 : lagOf (e.ps p) = (e.ps p).place := by unfold lagOf; rw [hx]; simp
  unfold readOwnE
  split
  · rename_i h0
    have hout := out_of h.G P.told hown.1 h0
    refine h.self hp rfl rfl (by rw [hx]; nofun) (by rw [hx]; nofun) nofun ⟨P.pl, P.told, fun _ => P.at1 (by rw [hx]; nofun), nofun, ?_, nofun, nofun, fun _ => hout, nofun, nofun, nofun⟩ ?_ (.inl ?_) nofun nofun
    · obtain ⟨i, a, b, _⟩ := P.hd
      exact ⟨i, a, b, nofun⟩
    · unfold InvS
      dsimp only
      omega
    · rw [e1]; unfold lagOf; simp
  · rename_i h0
    refine h.self hp rfl rfl (by rw [hx]; nofun) (by rw [hx]; nofun) (fun _ => path_of h.G h0) ⟨P.pl, P.told, fun _ => P.at1 (by rw [hx]; nofun), nofun, ?_, nofun, nofun, nofun, nofun, nofun, nofun⟩ ?_ (.inl ?_) nofun nofun
    · obtain ⟨i, a, b, _⟩ := P.hd
      exact ⟨i, a, b, nofun⟩
    · unfold InvS
      dsimp only
      omega
    · rw [e1]; unfold lagOf; simp

theorem readTurn_inv {e : Eg} {g : Gh} {p : Nat} (h : Inv e g) (hp : p < e.n) (hx : (e.ps p).nx = .readTurn) : Inv (readTurnE e p) g := by
  have P := h.P p hp
  have S := h.S p hp
  unfold InvS at S
  rw [hx] at S
  dsimp only at S
  have hown := h.N.own p hp (by rw [hx]; nofun)
  have hout := P.out (.inl hx)
  have hm : (e.ps p).place % e.n < e.n := Nat.mod_lt _ h.G.n1
  have e1 : lagOf (e.ps p) = (e.ps p).place := by unfold lagOf; rw [hx]; simp
  have e0 := h.N.ann _ hm
  have hann : ∀ r, r < e.n → (e.ps r).nx ≠ .rest → (e.ps r).nx ≠ .announce → (e.ps p).place % e.n = r → e.ann ((e.ps p).place % e.n) = (e.ps r).own ∧ 1 ≤ (e.ps r).own := by
    rintro r hr h1 h2 rfl
    exact announced_own h hr h1 h2
  unfold readTurnE
  obtain ⟨m, hm0⟩ : ∃ m, m = (e.ps p).place % e.n := ⟨_, rfl⟩
  rw [← hm0] at hm hann e0 ⊢
  by_cases h0 : e.ann m = 0
  · rw [if_pos h0]
    refine h.self hp rfl rfl (by rw [hx]; nofun) (by rw [hx]; nofun) nofun ⟨P.pl, P.told, fun _ => P.at1 (by rw [hx]; nofun), nofun, ?_, nofun, nofun, fun _ => hout, nofun, fun _ => ⟨hown.1, hown.2.1, hout⟩, nofun⟩ ?_ (.inl ?_) nofun ?_
    · obtain ⟨i, a, b, _⟩ := P.hd
      exact ⟨i, a, b, nofun⟩
    · unfold InvS
      dsimp only
      omega
    · rw [e1]; unfold lagOf; simp
    · intro _ r hr h1 h2 h3
      have := hann r hr h1 h2 (hm0.trans h3)
      omega
  · rw [if_neg h0]
    refine h.self hp rfl rfl (by rw [hx]; nofun) (by rw [hx]; nofun) nofun ⟨P.pl, P.told, fun _ => P.at1 (by rw [hx]; nofun), nofun, ?_, nofun, nofun, fun _ => hout, fun _ => ⟨Nat.pos_of_ne_zero h0, e0, rfl⟩, nofun, nofun⟩ ?_ (.inl ?_) ?_ nofun
    · obtain ⟨i, a, b, _⟩ := P.hd
      exact ⟨i, a, b, nofun⟩
    · unfold InvS
      dsimp only
      omega
    · rw [e1]; unfold lagOf; simp
    · intro _ r hr h1 h2 h3 _
      exact (hann r hr h1 h2 (hm0.trans h3)).1

theorem readTurns_inv {e : Eg} {g : Gh} {p : Nat} (h : Inv e g) (hp : p < e.n) (hx : (e.ps p).nx = .readTurns) : Inv (readTurnsE e p) g := by
  have P := h.P p hp
  have S := h.S p hp
  unfold InvS at S
  rw [hx] at S
  dsimp only at S
  have hown := h.N.own p hp (by rw [hx]; nofun)
  have hout := P.out (.inr (.inl hx))
  obtain ⟨t1, t2, t3⟩ := P.turns hx
  have e1 : lagOf (e.ps p) = (e.ps p).place := by unfold lagOf; rw [hx]; simp
  have hB : ∀ r, r < e.n → (e.ps r).nx ≠ .rest → (e.ps r).nx ≠ .announce → (e.ps p).place % e.n = r → g.aL r < (e.ps p).place → (e.ps p).other = (e.ps r).own :=
    fun r hr h1 h2 h3 h4 => (h.B r hr h1 h2).help1 p hp hx h3 h4
  unfold readTurnsE
  by_cases h0 : e.plc (e.ps p).other = 0
  · rw [if_pos h0]
    refine h.self hp rfl rfl (by rw [hx]; nofun) (by rw [hx]; nofun) nofun ⟨P.pl, P.told, fun _ => P.at1 (by rw [hx]; nofun), nofun, ?_, nofun, nofun, fun _ => hout, nofun, fun _ => ⟨t1, t2, out_of h.G P.told t1 h0⟩, nofun⟩ ?_ (.inl ?_) nofun
      (fun _ r hr h1 h2 h3 h4 => .inl (hB r hr h1 h2 h3 h4))
    · obtain ⟨i, a, b, _⟩ := P.hd
      exact ⟨i, a, b, nofun⟩
    · unfold InvS
      dsimp only
      omega
    · rw [e1]; unfold lagOf; simp
  · rw [if_neg h0]
    refine h.self hp rfl rfl (by rw [hx]; nofun) (by rw [hx]; nofun) nofun ⟨P.pl, P.told, fun _ => P.at1 (by rw [hx]; nofun), nofun, ?_, nofun, nofun, fun _ => hout, nofun, fun _ => ⟨by rw [t3]; exact hown.1, by rw [t3]; exact hown.2.1, by rw [t3]; exact hout⟩, nofun⟩ ?_ (.inl ?_) nofun
      (fun _ r hr h1 h2 h3 h4 => .inr (by rw [← hB r hr h1 h2 h3 h4]; exact path_of h.G h0))
    · obtain ⟨i, a, b, _⟩ := P.hd
      exact ⟨i, a, b, nofun⟩
    · unfold InvS
      dsimp only
      omega
    · rw [e1]; unfold lagOf; simp

theorem place_lt {e : Eg} {g : Gh} (h : InvG e g) {i : Nat} (hi : i ≤ g.L) (h0 : e.nxt (g.pa i) ≠ 0) : i < g.L := by
  rcases Nat.lt_or_ge i g.L with a | a
  · exact a
  · have : i = g.L := by omega
    subst this
    exact absurd h.last h0

theorem place_last {e : Eg} {g : Gh} (h : InvG e g) {i : Nat} (hi : i ≤ g.L) (h0 : e.nxt (g.pa i) = 0) : i = g.L := by
  rcases Nat.lt_or_ge i g.L with a | a
  · have h1 := h.nxt i a
    rw [h0, ← h.pa0] at h1
    have := h.inj 0 (i + 1) (by omega) (by omega) h1
    omega
  · omega

theorem readNext_inv {e : Eg} {g : Gh} {p : Nat} (h : Inv e g) (hp : p < e.n) (hx : (e.ps p).nx = .readNext) : Inv (readNextE e p) g := by
  have P := h.P p hp
  have S := h.S p hp
  unfold InvS at S
  rw [hx] at S
  dsimp only at S
  have hout := P.out (.inr (.inr (.inr (.inl hx))))
  have hlt := P.nxt hx
  have hato := P.at1 (by rw [hx]; nofun)
  have e1 : lagOf (e.ps p) = (e.ps p).place := by unfold lagOf; rw [hx]; simp
  refine h.self hp rfl rfl (by rw [hx]; nofun) (by rw [hx]; nofun) nofun ⟨P.pl, P.told, fun a => absurd rfl a, fun _ => ⟨hlt, ?_⟩, ?_, nofun, nofun, fun _ => hout, nofun, nofun, nofun⟩ ?_ (.inl ?_) nofun nofun
  · dsimp only
    rw [hato]
    exact h.G.nxt _ hlt
  · obtain ⟨i, a, b, _⟩ := P.hd
    exact ⟨i, a, b, nofun⟩
  · unfold InvS
    dsimp only
    omega
  · rw [e1]; unfold lagOf; simp

/-- By when a process's operation stands in the list. -/
theorem out_bound {e : Eg} {g : Gh} {p : Nat} (h : Inv e g) (hp : p < e.n) (B : InvB e g p) (hout : OutTo g (e.ps p).place (e.ps p).own) : (e.ps p).place ≤ g.aL p + e.n := by
  rcases Nat.lt_or_ge (g.aL p + e.n) (e.ps p).place with a | a
  · exfalso
    have hn := h.G.n1
    have hpl := (h.P p hp).pl
    obtain ⟨j, h1, h2, h3⟩ : ∃ j, g.aL p < j ∧ j ≤ g.aL p + e.n ∧ j % e.n = p := by
      obtain ⟨m, hm⟩ : ∃ m, m = g.aL p + 1 := ⟨_, rfl⟩
      have d := Nat.div_add_mod m e.n
      have l := Nat.mod_lt m (show e.n > 0 by omega)
      rcases Nat.lt_or_ge p (m % e.n) with b | b
      · refine ⟨e.n * (m / e.n + 1) + p, ?_, ?_, by rw [Nat.mul_add_mod]; exact Nat.mod_eq_of_lt hp⟩ <;> rw [Nat.mul_add, Nat.mul_one] <;> omega
      · exact ⟨e.n * (m / e.n) + p, by omega, by omega, by rw [Nat.mul_add_mod]; exact Nat.mod_eq_of_lt hp⟩
    obtain ⟨i, h4, h5⟩ := B.turn j h1 h3 (by omega)
    exact hout i (by omega) h5
  · exact a

end Go.Proofs.Ytiofhmlkgieclaa

/- The steps of Herlihy's engine that change what others see, and its beginnings. -/
namespace Go.Proofs.Ytiofhmlkgieclaa

theorem ext_refl (e : Eg) (g : Gh) : Ext e g e g := ⟨rfl, Nat.le_refl _, fun _ _ => rfl, fun _ _ h => h, Nat.le_refl _, fun _ i _ h1 h2 => ⟨i, Nat.le_refl _, h1, h2⟩⟩

theorem announce_inv {e : Eg} {g : Gh} {p : Nat} (h : Inv e g) (hp : p < e.n) (hx : (e.ps p).nx = .announce) : Inv (announceE e p) { g with aL := putN g.aL p g.L } := by
  have P := h.P p hp
  have S := h.S p hp
  unfold InvS at S
  rw [hx] at S
  dsimp only at S
  have hown := h.N.own p hp (by rw [hx]; nofun)
  have e1 : lagOf (e.ps p) = (e.ps p).place := by unfold lagOf; rw [hx]; simp
  have x : Ext e g (announceE e p) { g with aL := putN g.aL p g.L } := ⟨rfl, Nat.le_refl _, fun _ _ => rfl, fun _ _ h => h, Nat.le_refl _, fun _ i _ h1 h2 => ⟨i, Nat.le_refl _, h1, h2⟩⟩
  refine h.step x rfl (fun _ _ => rfl) (fun r hr => putN_other _ _ hr) ⟨h.G.n1, h.G.pa0, h.G.lt, h.G.inj, h.G.nxt, h.G.last, h.G.nxt0, h.G.plc, h.G.plc0, h.G.len, h.G.log, h.G.st⟩
    (h.N.step hp rfl rfl (fun _ a => a) rfl rfl rfl (by rw [hx]; nofun) nofun (fun r hr => putN_other _ _ hr) (putN_same _ _ _)) ?_ (h.H.step x rfl rfl (.inl ?_) hp) ?_ ?_
  · refine ⟨P.pl, P.told, fun _ => P.at1 (by rw [hx]; nofun), nofun, ?_, fun _ => ?_, nofun, nofun, nofun, nofun, nofun⟩
    · obtain ⟨i, a, b, _⟩ := P.hd
      exact ⟨i, a, b, nofun⟩
    · exact h.G.n1
  · rw [e1]; unfold lagOf; simp
  · intro r hr h1 h2
    by_cases a : r = p
    · subst a
      have ow : ((announceE e r).ps r).own = (e.ps r).own := by
        show (putN e.ps r _ r).own = _
        rw [putN_same]
      have al : putN g.aL r g.L r = g.L := putN_same _ _ _
      refine ⟨by show putN g.aL r g.L r ≤ g.L; omega, ?_, ?_, ?_⟩
      · intro k hk h3 h4 h5
        exfalso
        have h5' : putN g.aL r g.L r < (putN e.ps r _ k).place := h5
        by_cases b : k = r
        · subst b
          have h3' : (putN e.ps k _ k).nx = .readTurns := h3
          rw [putN_same] at h3'
          cases h3'
        · rw [putN_other _ _ b] at h5'
          have := (h.P k hk).pl
          omega
      · intro k hk h3 h4 h5
        exfalso
        have h5' : putN g.aL r g.L r < (putN e.ps r _ k).place := h5
        by_cases b : k = r
        · subst b
          have h3' : (putN e.ps k _ k).nx = .decide := h3
          rw [putN_same] at h3'
          cases h3'
        · rw [putN_other _ _ b] at h5'
          have := (h.P k hk).pl
          omega
      · intro j h3 _ h5
        have h3' : putN g.aL r g.L r < j := h3
        have h5' : j < g.L := h5
        omega
    · have e2 : (announceE e p).ps r = e.ps r := putN_other _ _ a
      rw [e2] at h1 h2
      have al : putN g.aL p g.L r = g.aL r := putN_other _ _ a
      exact (h.B r hr h1 h2).step x rfl (by rw [e2]) al nofun nofun (h.B r hr h1 h2).turn
  · unfold InvS
    dsimp only
    refine ⟨by omega, .inl ?_⟩
    obtain ⟨r, i, h1, h2, h3, h4⟩ := h.H.front
    exact ⟨r, i, Nat.zero_le _, h1, h2, h4, by rw [putN_same]; exact h3⟩

theorem tellPlace_inv {e : Eg} {g : Gh} {p : Nat} (h : Inv e g) (hp : p < e.n) (hx : (e.ps p).nx = .tellPlace) : Inv (tellPlaceE e p) g := by
  have P := h.P p hp
  have S := h.S p hp
  unfold InvS at S
  rw [hx] at S
  dsimp only at S
  obtain ⟨hlt, hato⟩ := P.at2 hx
  have hout := P.out (by rw [hx]; simp)
  have hob := out_bound h hp (h.B p hp (by rw [hx]; nofun) (by rw [hx]; nofun)) hout
  have e1 : lagOf (e.ps p) = (e.ps p).place := by unfold lagOf; rw [hx]; simp
  have pl1 : ∀ j, j ≤ g.L → j ≠ (e.ps p).place + 1 → putN e.plc (e.ps p).ato ((e.ps p).place + 1) (g.pa j) = e.plc (g.pa j) := fun j hj hn => putN_other _ _ (by rw [hato]; exact fun a => hn (h.G.inj _ _ hj (by omega) a))
  have pl2 : putN e.plc (e.ps p).ato ((e.ps p).place + 1) (g.pa ((e.ps p).place + 1)) = (e.ps p).place + 1 := by rw [hato, putN_same]
  have x : Ext e g (tellPlaceE e p) g := by
    refine ⟨rfl, Nat.le_refl _, fun _ _ => rfl, fun i hi h1 => ?_, Nat.le_refl _, fun _ i _ h1 h2 => ⟨i, Nat.le_refl _, h1, h2⟩⟩
    show putN e.plc (e.ps p).ato ((e.ps p).place + 1) (g.pa i) = i
    by_cases a : i = (e.ps p).place + 1
    · rw [a]; exact pl2
    · rw [pl1 i hi a]; exact h1
  refine h.step x rfl (fun _ _ => rfl) (fun r hr => rfl) ⟨h.G.n1, h.G.pa0, h.G.lt, h.G.inj, h.G.nxt, h.G.last, h.G.nxt0, fun i hi => ?_, fun k hk => ?_, h.G.len, h.G.log, h.G.st⟩
    (h.N.step hp rfl rfl (fun _ a => a) rfl rfl rfl (by rw [hx]; nofun) nofun (fun r hr => rfl) (h.N.ann' p hp (by rw [hx]; nofun) (by rw [hx]; nofun))) ?_ (h.H.step x rfl rfl (.inl ?_) hp) ?_ ?_
  · show putN e.plc (e.ps p).ato ((e.ps p).place + 1) (g.pa i) = 0 ∨ putN e.plc (e.ps p).ato ((e.ps p).place + 1) (g.pa i) = i
    by_cases a : i = (e.ps p).place + 1
    · rw [a]; exact .inr pl2
    · rw [pl1 i hi a]; exact h.G.plc i hi
  · show putN e.plc (e.ps p).ato ((e.ps p).place + 1) k = 0
    rw [putN_other _ _ (fun a => hk ⟨(e.ps p).place + 1, hlt, by rw [a]; exact hato.symm⟩)]
    exact h.G.plc0 k hk
  · refine ⟨hlt, ?_, fun _ => hato, nofun, ?_, nofun, nofun, nofun, nofun, nofun, nofun⟩
    · intro j hj
      show putN e.plc (e.ps p).ato ((e.ps p).place + 1) (g.pa j) = j
      by_cases a : j = (e.ps p).place + 1
      · rw [a]; exact pl2
      · have hj' : j ≤ (e.ps p).place + 1 := hj
        rw [pl1 j (by omega) a]
        exact P.told j (by omega)
    · obtain ⟨i, a, b, _⟩ := P.hd
      exact ⟨i, by show i ≤ (e.ps p).place + 1; omega, b, fun _ => by show i < (e.ps p).place + 1; omega⟩
  · rw [e1]; unfold lagOf; simp
  · intro r hr h1 h2
    have hb3 : (e.ps r).nx ≠ .rest ∧ (e.ps r).nx ≠ .announce ∧ ((tellPlaceE e p).ps r).own = (e.ps r).own := by
      by_cases a : r = p
      · subst a
        refine ⟨by rw [hx]; nofun, by rw [hx]; nofun, ?_⟩
        show (putN e.ps r _ r).own = _
        rw [putN_same]
      · have e2 : (tellPlaceE e p).ps r = e.ps r := putN_other _ _ a
        rw [e2] at h1 h2 ⊢
        exact ⟨h1, h2, rfl⟩
    have hB := h.B r hr hb3.1 hb3.2.1
    exact hB.step x rfl hb3.2.2 rfl nofun nofun hB.turn
  · unfold InvS
    dsimp only
    have : (tellPlaceE e p).n = e.n := rfl
    omega

theorem tellHead_inv {e : Eg} {g : Gh} {p : Nat} (h : Inv e g) (hp : p < e.n) (hx : (e.ps p).nx = .tellHead) : Inv (tellHeadE e p) g := by
  have P := h.P p hp
  have S := h.S p hp
  unfold InvS at S
  rw [hx] at S
  dsimp only at S
  have hato := P.at1 (by rw [hx]; nofun)
  have hpl := P.pl
  have x : Ext e g (tellHeadE e p) g := by
    refine ⟨rfl, Nat.le_refl _, fun _ _ => rfl, fun i hi h1 => h1, Nat.le_refl _, fun r i hr h1 h2 => ?_⟩
    show ∃ i', i ≤ i' ∧ i' ≤ g.L ∧ putN e.head p (e.ps p).ato r = g.pa i'
    by_cases a : r = p
    · subst a
      rw [putN_same]
      obtain ⟨j, a, b, _⟩ := P.hd
      have : i = j := h.G.inj i j h1 (by omega) (h2.symm.trans b)
      exact ⟨(e.ps r).place, by omega, hpl, hato⟩
    · rw [putN_other _ _ a]
      exact ⟨i, Nat.le_refl _, h1, h2⟩
  have hh : (tellHeadE e p).head p = g.pa (e.ps p).place := by
    show putN e.head p (e.ps p).ato p = _
    rw [putN_same, hato]
  refine h.step x rfl (fun r hr => putN_other _ _ hr) (fun r hr => rfl) ⟨h.G.n1, h.G.pa0, h.G.lt, h.G.inj, h.G.nxt, h.G.last, h.G.nxt0, h.G.plc, h.G.plc0, h.G.len, h.G.log, h.G.st⟩
    (h.N.step hp rfl rfl (fun _ a => a) rfl rfl rfl (by rw [hx]; nofun) nofun (fun r hr => rfl) (h.N.ann' p hp (by rw [hx]; nofun) (by rw [hx]; nofun))) ?_ (h.H.step x rfl rfl (.inr ?_) hp) ?_ ?_
  · exact ⟨P.pl, P.told, fun _ => hato, nofun, ⟨_, Nat.le_refl _, hh, nofun⟩, nofun, nofun, nofun, nofun, nofun, nofun⟩
  · refine ⟨p, (e.ps p).place, hp, hpl, ?_, hh⟩
    unfold lagOf
    simp
  · intro r hr h1 h2
    have hb3 : (e.ps r).nx ≠ .rest ∧ (e.ps r).nx ≠ .announce ∧ ((tellHeadE e p).ps r).own = (e.ps r).own := by
      by_cases a : r = p
      · subst a
        refine ⟨by rw [hx]; nofun, by rw [hx]; nofun, ?_⟩
        show (putN e.ps r _ r).own = _
        rw [putN_same]
      · have e2 : (tellHeadE e p).ps r = e.ps r := putN_other _ _ a
        rw [e2] at h1 h2 ⊢
        exact ⟨h1, h2, rfl⟩
    have hB := h.B r hr hb3.1 hb3.2.1
    exact hB.step x rfl hb3.2.2 rfl nofun nofun hB.turn
  · unfold InvS
    dsimp only
    have : (tellHeadE e p).n = e.n := rfl
    omega

/-- The list, one node longer. -/
def grown (g : Gh) (k : Nat) : Gh := { g with L := g.L + 1, pa := putN g.pa (g.L + 1) k }

theorem decide_inv {e : Eg} {g : Gh} {p : Nat} (h : Inv e g) (hp : p < e.n) (hx : (e.ps p).nx = .decide) : (e.nxt (e.ps p).ato ≠ 0 ∧ Inv (decideE e p) g) ∨ (e.nxt (e.ps p).ato = 0 ∧ ¬ InPath g (e.ps p).wanted ∧ (e.ps p).place = g.L ∧ Inv (decideE e p) (grown g (e.ps p).wanted)) := by
  have P := h.P p hp
  have S := h.S p hp
  unfold InvS at S
  rw [hx] at S
  dsimp only at S
  have hato := P.at1 (by rw [hx]; nofun)
  have hpl := P.pl
  have hout := P.out (by rw [hx]; simp)
  obtain ⟨d1, d2, d3⟩ := P.dec hx
  have e1 : lagOf (e.ps p) = (e.ps p).place := by unfold lagOf; rw [hx]; simp
  by_cases h0 : e.nxt (e.ps p).ato = 0
  · right
    have hL : (e.ps p).place = g.L := place_last h.G hpl (by rw [← hato]; exact h0)
    have hnot : ¬ InPath g (e.ps p).wanted := by
      rintro ⟨i, hi, h1⟩
      exact d3 i (by omega) h1
    refine ⟨h0, hnot, hL, ?_⟩
    have pa1 : ∀ i, i ≤ g.L → (grown g (e.ps p).wanted).pa i = g.pa i := fun i hi => putN_other _ _ (by omega)
    have pa2 : (grown g (e.ps p).wanted).pa (g.L + 1) = (e.ps p).wanted := putN_same _ _ _
    have gL : (grown g (e.ps p).wanted).L = g.L + 1 := rfl
    have gp : ∀ k, InPath (grown g (e.ps p).wanted) k ↔ InPath g k ∨ k = (e.ps p).wanted := by
      intro k
      constructor
      · rintro ⟨i, hi, h1⟩
        rw [gL] at hi
        by_cases a : i = g.L + 1
        · rw [a, pa2] at h1
          exact .inr h1.symm
        · rw [pa1 i (by omega)] at h1
          exact .inl ⟨i, by omega, h1⟩
      · rintro (⟨i, hi, h1⟩ | rfl)
        · exact ⟨i, by rw [gL]; omega, by rw [pa1 i hi]; exact h1⟩
        · exact ⟨g.L + 1, by rw [gL]; exact Nat.le_refl _, pa2⟩
    unfold decideE
    rw [if_pos h0]
    generalize hQ : ({ e.ps p with nx := .tellPlace, did := (e.ps p).did + 1, ato := (e.ps p).wanted } : Pc) = q'
    have q1 : q'.nx = .tellPlace := by rw [← hQ]
    have q2 : q'.ato = (e.ps p).wanted := by rw [← hQ]
    have q3 : q'.place = (e.ps p).place := by rw [← hQ]
    have q4 : q'.own = (e.ps p).own := by rw [← hQ]
    have q5 : q'.did = (e.ps p).did + 1 := by rw [← hQ]
    have q6 : q'.began = (e.ps p).began := by rw [← hQ]
    have q7 : q'.seq = (e.ps p).seq := by rw [← hQ]
    generalize hE : ({ effectE e (e.ps p).wanted with nxt := putN e.nxt (e.ps p).ato (e.ps p).wanted, ps := putN e.ps p q' } : Eg) = e'
    have f1 : e'.n = e.n := by rw [← hE]; rfl
    have f2 : e'.nodes = e.nodes := by rw [← hE]; rfl
    have f3 : e'.nxt = putN e.nxt (e.ps p).ato (e.ps p).wanted := by rw [← hE]
    have f4 : e'.plc = e.plc := by rw [← hE]; rfl
    have f5 : e'.head = e.head := by rw [← hE]; rfl
    have f6 : e'.ann = e.ann := by rw [← hE]; rfl
    have f7 : e'.ps = putN e.ps p q' := by rw [← hE]
    have f8 : e'.log = e.log ++ [⟨e.log.length, (e.nd (e.ps p).wanted).proc, (e.nd (e.ps p).wanted).seq, (e.nd (e.ps p).wanted).op, (stepO e.st (e.nd (e.ps p).wanted).op).2⟩] := by rw [← hE]; rfl
    have f9 : e'.st = (stepO e.st (e.nd (e.ps p).wanted).op).1 := by rw [← hE]; rfl
    have f10 : ∀ k, e'.nd k = e.nd k := fun k => by unfold Eg.nd; rw [f2]
    clear hE hQ
    have x : Ext e g e' (grown g (e.ps p).wanted) :=
      ⟨f1, by rw [gL]; omega, pa1, fun i _ h1 => by rw [f4]; exact h1, by rw [f2]; exact Nat.le_refl _, fun r i _ h1 h2 => ⟨i, Nat.le_refl _, by rw [gL]; omega, by rw [f5, pa1 i h1]; exact h2⟩⟩
    have hbusy : (e.ps p).nx ≠ .rest := by rw [hx]; nofun
    have hbusy' : (e.ps p).nx ≠ .announce := by rw [hx]; nofun
    have nxt1 : ∀ k, k ≠ g.pa g.L → e'.nxt k = e.nxt k := fun k hk => by rw [f3, hato, hL]; exact putN_other _ _ hk
    have nxt2 : e'.nxt (g.pa g.L) = (e.ps p).wanted := by rw [f3, hato, hL]; exact putN_same _ _ _
    refine h.step x f7 (fun r _ => by rw [f5]) (fun r _ => rfl) ?_
      (h.N.step hp f1 f2 (fun k a => (gp k).2 (.inl a)) f7 q4 q7 hbusy (by rw [q1]; nofun) (fun r _ => by rw [f6]) (by rw [f6, q4]; exact h.N.ann' p hp hbusy hbusy')) ?_ ?_ ?_ ?_
    · refine ⟨by rw [f1]; exact h.G.n1, by rw [pa1 0 (Nat.zero_le _)]; exact h.G.pa0, ?_, ?_, ?_, ?_, ?_, ?_, ?_, by rw [f8, gL]; simp [h.G.len], ?_, by rw [f9]; exact stepO_may h.G.st _⟩
      · intro i hi
        rw [gL] at hi
        rw [f2]
        by_cases a : i = g.L + 1
        · rw [a, pa2]; exact d2
        · rw [pa1 i (by omega)]; exact h.G.lt i (by omega)
      · intro i j hi hj hij
        rw [gL] at hi hj
        by_cases a : i = g.L + 1
        · by_cases b : j = g.L + 1
          · omega
          · rw [a, pa2, pa1 j (by omega)] at hij
            exact absurd ⟨j, by omega, hij.symm⟩ hnot
        · by_cases b : j = g.L + 1
          · rw [b, pa2, pa1 i (by omega)] at hij
            exact absurd ⟨i, by omega, hij⟩ hnot
          · rw [pa1 i (by omega), pa1 j (by omega)] at hij
            exact h.G.inj i j (by omega) (by omega) hij
      · intro i hi
        rw [gL] at hi
        by_cases a : i = g.L
        · rw [a, pa1 _ (Nat.le_refl _), pa2]; exact nxt2
        · rw [pa1 i (by omega), pa1 (i + 1) (by omega), nxt1 _ (fun b => a (h.G.inj _ _ (by omega) (Nat.le_refl _) b))]
          exact h.G.nxt i (by omega)
      · rw [gL, pa2, nxt1 _ (fun b => hnot ⟨g.L, Nat.le_refl _, b.symm⟩)]
        exact h.G.nxt0 _ hnot
      · intro k hk
        have hk' : ¬ InPath g k := fun a => hk ((gp k).2 (.inl a))
        rw [nxt1 k (fun b => hk' ⟨g.L, Nat.le_refl _, b.symm⟩)]
        exact h.G.nxt0 k hk'
      · intro i hi
        rw [gL] at hi
        rw [f4]
        by_cases a : i = g.L + 1
        · rw [a, pa2]; exact .inl (h.G.plc0 _ hnot)
        · rw [pa1 i (by omega)]; exact h.G.plc i (by omega)
      · intro k hk
        rw [f4]
        exact h.G.plc0 k fun a => hk ((gp k).2 (.inl a))
      · intro i hi
        rw [gL] at hi
        rw [f10, f8]
        by_cases a : i = g.L
        · rw [a, pa2]
          refine ⟨(stepO e.st (e.nd (e.ps p).wanted).op).2, ?_⟩
          rw [← h.G.len]
          simp
        · rw [pa1 (i + 1) (by omega)]
          obtain ⟨y, hy⟩ := h.G.log i (by omega)
          exact ⟨y, by rw [List.getElem?_append_left (by rw [h.G.len]; omega)]; exact hy⟩
    · refine ⟨by rw [q3, gL]; omega, ?_, by rw [q1]; exact fun a => absurd rfl a, fun _ => ⟨by rw [q3, gL]; omega, by rw [q2, q3, hL]; exact pa2.symm⟩, ?_, by rw [q1]; nofun, by rw [q1]; nofun, fun _ => ?_, by rw [q1]; nofun, by rw [q1]; nofun, by rw [q1]; nofun⟩
      · rw [q3]; exact P.told.ext x hpl
      · obtain ⟨i, a, b, _⟩ := P.hd
        exact ⟨i, by rw [q3]; exact a, by rw [f5, pa1 i (by omega)]; exact b, by rw [q1]; nofun⟩
      · rw [q3, q4]; exact hout.ext x hpl
    · refine ⟨?_, ?_⟩
      · obtain ⟨r, i, h1, h2, h3, h4⟩ := h.H.lag p hp
        rw [e1] at h3
        exact ⟨r, i, by rw [f1]; exact h1, by rw [gL]; omega, by rw [gL]; omega, by rw [f5, pa1 i h2]; exact h4⟩
      · intro k hk
        rw [f1] at hk
        obtain ⟨r, i, h1, h2, h3, h4⟩ := h.H.lag k hk
        refine ⟨r, i, by rw [f1]; exact h1, by rw [gL]; omega, ?_, by rw [f5, pa1 i h2]; exact h4⟩
        rw [f7]
        by_cases a : k = p
        · subst a
          rw [putN_same]
          rw [e1] at h3
          unfold lagOf
          rw [q1, if_neg (by nofun), q3]
          exact h3
        · rw [putN_other _ _ a]; exact h3
    · intro r hr h1 h2
      have hb3 : (e.ps r).nx ≠ .rest ∧ (e.ps r).nx ≠ .announce ∧ (e'.ps r).own = (e.ps r).own := by
        rw [f7] at h1 h2 ⊢
        by_cases a : r = p
        · subst a
          rw [putN_same]
          exact ⟨hbusy, hbusy', q4⟩
        · rw [putN_other _ _ a] at h1 h2 ⊢
          exact ⟨h1, h2, rfl⟩
      have hB := h.B r hr hb3.1 hb3.2.1
      refine hB.step x f7 hb3.2.2 rfl (by rw [q1]; nofun) (by rw [q1]; nofun) ?_
      intro j h3 h4 h5
      rw [gL] at h5
      by_cases a : j = g.L
      · rcases hB.help2 p hp hx (by rw [hL, ← a]; exact h4) (by rw [hL, ← a]; exact h3) with b | ⟨i, hi, b⟩
        · exact ⟨g.L + 1, by omega, by rw [pa2]; exact b⟩
        · exact ⟨i, by omega, by rw [pa1 i hi]; exact b⟩
      · obtain ⟨i, h6, h7⟩ := hB.turn j h3 h4 (by omega)
        exact ⟨i, h6, by rw [pa1 i (by omega)]; exact h7⟩
    · unfold InvS
      rw [q1]
      dsimp only
      rw [q3, q5, q6, f1]
      have : (grown g (e.ps p).wanted).aL p = g.aL p := rfl
      omega
  · left
    refine ⟨h0, ?_⟩
    unfold decideE
    rw [if_neg h0]
    have hlt := place_lt h.G hpl (by rw [← hato]; exact h0)
    refine h.self hp rfl rfl (by rw [hx]; nofun) (by rw [hx]; nofun) nofun ⟨P.pl, P.told, fun _ => hato, nofun, ?_, nofun, nofun, fun _ => hout, nofun, nofun, fun _ => hlt⟩ ?_ (.inl ?_) nofun nofun
    · obtain ⟨i, a, b, _⟩ := P.hd
      exact ⟨i, a, b, nofun⟩
    · unfold InvS
      dsimp only
      omega
    · rw [e1]; unfold lagOf; simp

end Go.Proofs.Ytiofhmlkgieclaa

/- Histories of an object that processes share, whatever its program: what of them holds in any order of steps. -/
namespace Go.Proofs.Ytiofhmlkgieclaa

def Stands (log : List Rec) (p s : Nat) : Prop := ∃ r ∈ log, r.proc = p ∧ r.seq = s

/-- What of two records tells that they are of one operation. -/
def TwinR (r s : Rec) : Prop := r.proc = s.proc ∧ r.seq = s.seq

/-- A program by which processes share an object. -/
structure Mod (E : Type) where
  n : E → Nat
  ok : E → Prop
  seq : E → Nat → Nat
  busy : E → Nat → Bool
  cur : E → Nat → Opn
  log : E → List Rec
  steps : E → Nat → Nat
  resp : E → Nat → Int
  beg : E → Nat → Opn → E
  go : E → Nat → E

/-- What it keeps. -/
structure ModOk {E : Type} (m : Mod E) : Prop where
  beg : ∀ e p o, m.ok e → p < m.n e → m.busy e p = false → FitsO o →
    m.ok (m.beg e p o) ∧ m.n (m.beg e p o) = m.n e ∧ m.log (m.beg e p o) = m.log e ∧
    (m.seq (m.beg e p o) p = m.seq e p + 1 ∧ m.busy (m.beg e p o) p = true ∧ m.cur (m.beg e p o) p = o ∧ m.steps (m.beg e p o) p = 0) ∧
    ∀ q, q < m.n e → q ≠ p → m.seq (m.beg e p o) q = m.seq e q ∧ m.busy (m.beg e p o) q = m.busy e q ∧ (m.busy e q = true → m.cur (m.beg e p o) q = m.cur e q) ∧ m.steps (m.beg e p o) q = m.steps e q
  go : ∀ e p, m.ok e → p < m.n e → m.busy e p = true →
    m.ok (m.go e p) ∧ m.n (m.go e p) = m.n e ∧ m.steps (m.go e p) p = m.steps e p + 1 ∧
    ∀ q, q < m.n e → m.seq (m.go e p) q = m.seq e q ∧ (m.busy e q = true → m.cur (m.go e p) q = m.cur e q) ∧ (q ≠ p → m.busy (m.go e p) q = m.busy e q ∧ m.steps (m.go e p) q = m.steps e q)
  log : ∀ e p, m.ok e → p < m.n e → m.busy e p = true → ∃ new, m.log (m.go e p) = m.log e ++ new ∧
    (∀ r ∈ new, ∃ q, q < m.n e ∧ m.busy e q = true ∧ r.proc = q ∧ r.seq = m.seq e q ∧ r.op = m.cur e q ∧ ¬ Stands (m.log e) q (m.seq e q)) ∧ new.Pairwise fun r s => ¬ TwinR r s
  done : ∀ e p, m.ok e → p < m.n e → m.busy e p = true → m.busy (m.go e p) p = false → ∃ r ∈ m.log (m.go e p), r.proc = p ∧ r.seq = m.seq e p ∧ r.resp = m.resp (m.go e p) p

/-- One of a script. -/
structure EvP where
  kind : Int
  p : Int
  op : Opn

/-- An operation of a history. -/
structure Cal where
  p : Int
  seq : Int
  from_ : Int
  to_ : Int
  resp : Int
  op : Opn

def Mod.has {E : Type} (m : Mod E) (e : E) (p : Int) : Prop := 0 ≤ p ∧ p < m.n e

instance {E : Type} (m : Mod E) (e : E) (p : Int) : Decidable (m.has e p) := by unfold Mod.has; infer_instance

def Mod.isBusy {E : Type} (m : Mod E) (e : E) (p : Int) : Bool := decide (m.has e p) && m.busy e p.toNat

/-- The call Invoke. -/
def Mod.invoke {E : Type} (m : Mod E) (e : E) (p : Int) (o : Opn) : E × Int :=
  if ¬ m.has e p ∨ ¬ FitsO o then (e, 1) else if m.isBusy e p = true then (e, 14) else (m.beg e p.toNat o, 0)

/-- The call Step. -/
def Mod.step {E : Type} (m : Mod E) (e : E) (p : Int) : E × Int × Bool :=
  if m.isBusy e p = true then
    if m.isBusy (m.go e p.toNat) p = true then (m.go e p.toNat, 0, false) else (m.go e p.toNat, m.resp (m.go e p.toNat) p.toNat, true)
  else (e, 0, false)

structure RunS (E : Type) where
  e : E
  many : List Int
  opn : List Int
  out : List Cal

def noCal : Cal := ⟨0, 0, 0, 0, 0, ⟨0, 0, 0⟩⟩

/-- One of a script, in the statements' run. -/
def runStep {E : Type} (m : Mod E) (n : Nat) (i : Int) (v : EvP) (R : RunS E) : RunS E :=
  if v.p < 0 ∨ (n : Int) ≤ v.p then R
  else if v.kind = 0 then
    if (m.invoke R.e v.p v.op).2 = 0 then
      ⟨(m.invoke R.e v.p v.op).1, R.many.set v.p.toNat (R.many.getD v.p.toNat 0 + 1), R.opn.set v.p.toNat (R.out.length : Int), R.out ++ [⟨v.p, R.many.getD v.p.toNat 0 + 1, i, -1, 0, v.op⟩]⟩
    else R
  else if v.kind = 1 then
    if (m.step R.e v.p).2.2 = true then
      { R with e := (m.step R.e v.p).1, out := R.out.set (R.opn.getD v.p.toNat 0).toNat { R.out.getD (R.opn.getD v.p.toNat 0).toNat noCal with to_ := i, resp := (m.step R.e v.p).2.1 } }
    else { R with e := (m.step R.e v.p).1 }
  else R

def runL {E : Type} (m : Mod E) (n : Nat) : Nat → List EvP → RunS E → RunS E
  | _, [], R => R
  | i, v :: l, R => runL m n (i + 1) l (runStep m n (i : Int) v R)

theorem runL_snoc {E : Type} (m : Mod E) (n : Nat) : ∀ (l : List EvP) (i : Nat) (R : RunS E) (v : EvP), runL m n i (l ++ [v]) R = runStep m n ((i + l.length : Nat) : Int) v (runL m n i l R)
  | [], i, R, v => rfl
  | u :: l, i, R, v => by
    rw [List.cons_append, runL, runL_snoc m n l (i + 1), runL, List.length_cons]
    congr 2
    omega

def MatchC (r : Rec) (c : Cal) : Prop := r.proc = c.p ∧ r.seq = c.seq

instance (r : Rec) (c : Cal) : Decidable (MatchC r c) := by unfold MatchC; infer_instance

/-- What is true of a history, whatever steps there were. -/
structure HInv {E : Type} (m : Mod E) (n : Nat) (i : Int) (R : RunS E) : Prop where
  ok : m.ok R.e
  hn : m.n R.e = n
  lm : R.many.length = n
  lo : R.opn.length = n
  many : ∀ p, p < n → R.many.getD p 0 = m.seq R.e p
  mine : ∀ c : Cal, c ∈ R.out → 0 ≤ c.p ∧ c.p < n ∧ 1 ≤ c.seq ∧ c.seq ≤ m.seq R.e c.p.toNat ∧ c.from_ < i ∧ c.to_ < i
  uniq : R.out.Pairwise fun c d : Cal => ¬ (c.p = d.p ∧ c.seq = d.seq)
  cur : ∀ p, p < n → m.busy R.e p = true → ∃ k c, R.opn.getD p 0 = ((k : Nat) : Int) ∧ R.out[k]? = some c ∧ c.p = p ∧ c.seq = m.seq R.e p ∧ c.to_ = -1 ∧ c.op = m.cur R.e p
  done : ∀ c ∈ R.out, 0 ≤ c.to_ → ∃ r ∈ m.log R.e, MatchC r c ∧ r.resp = c.resp
  known : ∀ r ∈ m.log R.e, ∃ c ∈ R.out, MatchC r c ∧ r.op = c.op
  once : (m.log R.e).Pairwise fun r s => ¬ TwinR r s
  order : ∀ c ∈ R.out, ∀ d ∈ R.out, 0 ≤ c.to_ → c.to_ < d.from_ → ∀ (a b : Nat) (r s : Rec), (m.log R.e)[a]? = some r → (m.log R.e)[b]? = some s → MatchC r d → MatchC s c → b < a

theorem pair_same {α : Type} {R : α → α → Prop} (hs : ∀ a b, R a b → R b a) {l : List α} (h : l.Pairwise R) {i j : Nat} {a b : α} (hi : l[i]? = some a) (hj : l[j]? = some b) (hn : ¬ R a b) : i = j := by
  obtain ⟨h1, h2⟩ := List.getElem?_eq_some_iff.1 hi
  obtain ⟨h3, h4⟩ := List.getElem?_eq_some_iff.1 hj
  rcases Nat.lt_trichotomy i j with c | c | c
  · exact absurd (h2 ▸ h4 ▸ List.pairwise_iff_getElem.1 h i j h1 h3 c) hn
  · exact c
  · exact absurd (hs _ _ (h2 ▸ h4 ▸ List.pairwise_iff_getElem.1 h j i h3 h1 c)) hn

theorem twin_symm (a b : Rec) (h : ¬ TwinR a b) : ¬ TwinR b a := fun k => h ⟨k.1.symm, k.2.symm⟩

theorem cal_symm (a b : Cal) (h : ¬ (a.p = b.p ∧ a.seq = b.seq)) : ¬ (b.p = a.p ∧ b.seq = a.seq) := fun k => h ⟨k.1.symm, k.2.symm⟩

theorem getD_set_self {l : List Int} {k : Nat} {x : Int} (h : k < l.length) : (l.set k x).getD k 0 = x := by simp [List.getD, h]

theorem getD_set_ne {l : List Int} {k j : Nat} {x : Int} (h : j ≠ k) : (l.set k x).getD j 0 = l.getD j 0 := by simp [List.getD, Ne.symm h]

theorem HInv.later {E : Type} {m : Mod E} {n : Nat} {i i' : Int} {R : RunS E} (h : HInv m n i R) (hi : i ≤ i') : HInv m n i' R :=
  ⟨h.ok, h.hn, h.lm, h.lo, h.many, fun c hc => by have := h.mine c hc; omega, h.uniq, h.cur, h.done, h.known, h.once, h.order⟩

theorem HInv.begin {E : Type} {m : Mod E} (M : ModOk m) {n : Nat} {i : Int} {R : RunS E} (h : HInv m n i R) (h0 : 0 ≤ i) (p : Nat) (hp : p < n) (o : Opn) (hb : m.busy R.e p = false) (hf : FitsO o) :
    HInv m n (i + 1) ⟨m.beg R.e p o, R.many.set p (R.many.getD p 0 + 1), R.opn.set p (R.out.length : Int), R.out ++ [⟨(p : Int), R.many.getD p 0 + 1, i, -1, 0, o⟩]⟩ := by
  obtain ⟨b1, b2, b3, ⟨b4, b5, b6, -⟩, b7⟩ := M.beg R.e p o h.ok (by rw [h.hn]; exact hp) hb hf
  have hm := h.many p hp
  have b8 : ∀ q, q < n → q ≠ p → m.seq (m.beg R.e p o) q = m.seq R.e q ∧ m.busy (m.beg R.e p o) q = m.busy R.e q ∧ (m.busy R.e q = true → m.cur (m.beg R.e p o) q = m.cur R.e q) := fun q hq hn => by
    have := b7 q (by rw [h.hn]; exact hq) hn
    exact ⟨this.1, this.2.1, this.2.2.1⟩
  have hseq : ∀ q, q < n → m.seq R.e q ≤ m.seq (m.beg R.e p o) q := fun q hq => by
    by_cases a : q = p
    · subst a; omega
    · rw [(b8 q hq a).1]; exact Nat.le_refl _
  have hnew : ∀ c ∈ R.out, ¬ (c.p = (p : Int) ∧ c.seq = R.many.getD p 0 + 1) := fun c hc a => by
    have := h.mine c hc
    have e : c.p.toNat = p := by omega
    rw [e] at this
    omega
  have hnolog : ∀ r ∈ m.log R.e, ¬ (r.proc = (p : Int) ∧ r.seq = R.many.getD p 0 + 1) := fun r hr a => by
    obtain ⟨c, hc, hm, _⟩ := h.known r hr
    exact hnew c hc ⟨by rw [← hm.1]; exact a.1, by rw [← hm.2]; exact a.2⟩
  refine ⟨b1, by rw [b2]; exact h.hn, by simp [h.lm], by simp [h.lo], ?_, ?_, ?_, ?_, ?_, ?_, ?_, ?_⟩
  · intro q hq
    dsimp only
    by_cases a : q = p
    · subst a
      rw [getD_set_self (by rw [h.lm]; exact hq), b4, hm]
      omega
    · rw [getD_set_ne a, (b8 q hq a).1]
      exact h.many q hq
  · intro c hc
    dsimp only at hc ⊢
    rcases List.mem_append.1 hc with hc | hc
    · have := h.mine c hc
      have := hseq c.p.toNat (by omega)
      omega
    · obtain rfl := List.mem_singleton.1 hc
      dsimp only
      have e : ((p : Int)).toNat = p := by omega
      rw [e, b4, hm]
      omega
  · dsimp only
    rw [List.pairwise_append]
    refine ⟨h.uniq, List.pairwise_singleton _ _, fun c hc d hd => ?_⟩
    obtain rfl := List.mem_singleton.1 hd
    exact hnew c hc
  · intro q hq hbq
    dsimp only at hbq ⊢
    by_cases a : q = p
    · subst a
      refine ⟨R.out.length, ⟨(q : Int), R.many.getD q 0 + 1, i, -1, 0, o⟩, getD_set_self (by rw [h.lo]; exact hq), by simp, rfl, ?_, rfl, b6.symm⟩
      dsimp only
      rw [b4, hm]
      omega
    · obtain ⟨c1, c2, c3⟩ := b8 q hq a
      rw [c2] at hbq
      obtain ⟨k, c, d1, d2, d3, d4, d5, d6⟩ := h.cur q hq hbq
      refine ⟨k, c, by rw [getD_set_ne a]; exact d1, ?_, d3, by rw [c1]; exact d4, d5, by rw [c3 hbq]; exact d6⟩
      rw [List.getElem?_append_left (List.getElem?_eq_some_iff.1 d2).1]
      exact d2
  · intro c hc h1
    dsimp only at hc ⊢
    rw [b3]
    rcases List.mem_append.1 hc with hc | hc
    · exact h.done c hc h1
    · obtain rfl := List.mem_singleton.1 hc
      dsimp only at h1
      omega
  · intro r hr
    dsimp only at hr ⊢
    rw [b3] at hr
    obtain ⟨c, hc, hm⟩ := h.known r hr
    exact ⟨c, List.mem_append_left _ hc, hm⟩
  · dsimp only
    rw [b3]
    exact h.once
  · intro c hc d hd h1 h2 a b r s ha hb' hr hs
    dsimp only at hc hd ha hb'
    rw [b3] at ha hb'
    rcases List.mem_append.1 hc with hc | hc
    · rcases List.mem_append.1 hd with hd | hd
      · exact h.order c hc d hd h1 h2 a b r s ha hb' hr hs
      · obtain rfl := List.mem_singleton.1 hd
        exact absurd hr (hnolog r (List.mem_of_getElem? ha))
    · obtain rfl := List.mem_singleton.1 hc
      dsimp only at h1
      omega

/-- What a step does to a history, ahead of telling whether it is done. -/
theorem HInv.go {E : Type} {m : Mod E} (M : ModOk m) {n : Nat} {i : Int} {R : RunS E} (h : HInv m n i R) (p : Nat) (hp : p < n) (hb : m.busy R.e p = true) (out' : List Cal)
    (ho : out' = R.out ∧ m.busy (m.go R.e p) p = true ∨ ∃ k c, R.opn.getD p 0 = ((k : Nat) : Int) ∧ R.out[k]? = some c ∧ out' = R.out.set k { c with to_ := i, resp := m.resp (m.go R.e p) p } ∧ m.busy (m.go R.e p) p = false) :
    HInv m n (i + 1) ⟨m.go R.e p, R.many, R.opn, out'⟩ := by
  obtain ⟨g1, g2, -, g3⟩ := M.go R.e p h.ok (by rw [h.hn]; exact hp) hb
  obtain ⟨new, l1, l2, l3⟩ := M.log R.e p h.ok (by rw [h.hn]; exact hp) hb
  have hdone := M.done R.e p h.ok (by rw [h.hn]; exact hp) hb
  rw [h.hn] at g3 l2
  obtain ⟨k0, c0, x1, x2, x3, x4, x5, x6⟩ := h.cur p hp hb
  have hk0 := (List.getElem?_eq_some_iff.1 x2).1
  -- what of a call stays, whoever it is
  have hcal : ∀ c ∈ out', ∃ c' ∈ R.out, c'.p = c.p ∧ c'.seq = c.seq ∧ c'.from_ = c.from_ ∧ c'.op = c.op ∧ (c.to_ = c'.to_ ∧ c.resp = c'.resp ∨ c.to_ = i ∧ c.p = p ∧ c.seq = m.seq R.e p ∧ c.resp = m.resp (m.go R.e p) p ∧ m.busy (m.go R.e p) p = false) := by
    intro c hc
    rcases ho with ⟨rfl, _⟩ | ⟨k, c1, y1, y2, rfl, y3⟩
    · exact ⟨c, hc, rfl, rfl, rfl, rfl, .inl ⟨rfl, rfl⟩⟩
    · have : k = k0 := by omega
      subst this
      obtain rfl : c0 = c1 := by rw [x2] at y2; exact Option.some.inj y2
      rcases List.mem_or_eq_of_mem_set hc with hc | rfl
      · exact ⟨c, hc, rfl, rfl, rfl, rfl, .inl ⟨rfl, rfl⟩⟩
      · exact ⟨c0, List.mem_of_getElem? x2, rfl, rfl, rfl, rfl, .inr ⟨rfl, x3, x4, rfl, y3⟩⟩
  have hcal' : ∀ c ∈ R.out, ∃ c' ∈ out', c'.p = c.p ∧ c'.seq = c.seq ∧ c'.op = c.op := by
    intro c hc
    rcases ho with ⟨rfl, _⟩ | ⟨k, c1, y1, y2, rfl, y3⟩
    · exact ⟨c, hc, rfl, rfl, rfl⟩
    · obtain ⟨j, hj, rfl⟩ := List.getElem_of_mem hc
      by_cases a : j = k
      · subst a
        rw [List.getElem?_eq_getElem hj] at y2
        obtain rfl := Option.some.inj y2
        exact ⟨_, List.mem_of_getElem? (List.getElem?_set_self hj), rfl, rfl, rfl⟩
      · exact ⟨R.out[j], List.mem_of_getElem? (i := j) (by rw [List.getElem?_set_ne (Ne.symm a)]; exact List.getElem?_eq_getElem hj), rfl, rfl, rfl⟩
  have once' : (m.log (m.go R.e p)).Pairwise fun r s => ¬ TwinR r s := by
    rw [l1, List.pairwise_append]
    refine ⟨h.once, l3, fun r hr s hs a => ?_⟩
    obtain ⟨q, -, -, q1, q2, -, q3⟩ := l2 s hs
    exact q3 ⟨r, hr, by rw [a.1, q1], by rw [a.2, q2]⟩
  refine ⟨g1, by rw [g2]; exact h.hn, h.lm, h.lo, fun q hq => by rw [(g3 q hq).1]; exact h.many q hq, ?_, ?_, ?_, ?_, ?_, once', ?_⟩
  · intro c hc
    obtain ⟨c', hc', e1, e2, e3, e4, e5⟩ := hcal c hc
    have hm := h.mine c' hc'
    rw [e1, e2, e3] at hm
    refine ⟨hm.1, hm.2.1, hm.2.2.1, by rw [(g3 c.p.toNat (by omega)).1]; exact hm.2.2.2.1, by omega, ?_⟩
    rcases e5 with e5 | e5 <;> omega
  · dsimp only
    rcases ho with ⟨rfl, _⟩ | ⟨k, c1, y1, y2, rfl, y3⟩
    · exact h.uniq
    · rw [List.pairwise_iff_getElem]
      have key : ∀ j (hj : j < (R.out.set k { c1 with to_ := i, resp := m.resp (m.go R.e p) p }).length), ∃ hj' : j < R.out.length, (R.out.set k { c1 with to_ := i, resp := m.resp (m.go R.e p) p })[j].p = R.out[j].p ∧ (R.out.set k { c1 with to_ := i, resp := m.resp (m.go R.e p) p })[j].seq = R.out[j].seq := by
        intro j hj
        have hj' : j < R.out.length := by simpa using hj
        refine ⟨hj', ?_⟩
        rw [List.getElem_set]
        split
        · rename_i a
          subst a
          rw [List.getElem?_eq_getElem hj'] at y2
          obtain rfl := Option.some.inj y2
          exact ⟨rfl, rfl⟩
        · exact ⟨rfl, rfl⟩
      intro a b ha hb' hab
      obtain ⟨ha1, ha2, ha3⟩ := key a ha
      obtain ⟨hb1, hb2, hb3⟩ := key b hb'
      rw [ha2, ha3, hb2, hb3]
      exact List.pairwise_iff_getElem.1 h.uniq a b ha1 hb1 hab
  · intro q hq hbq
    dsimp only at hbq ⊢
    have hbq' : m.busy R.e q = true := by
      by_cases a : q = p
      · subst a; exact hb
      · rw [← ((g3 q hq).2.2 a).1]; exact hbq
    obtain ⟨k, c, d1, d2, d3, d4, d5, d6⟩ := h.cur q hq hbq'
    refine ⟨k, c, d1, ?_, d3, by rw [(g3 q hq).1]; exact d4, d5, by rw [(g3 q hq).2.1 hbq']; exact d6⟩
    rcases ho with ⟨rfl, _⟩ | ⟨k1, c1, y1, y2, rfl, y3⟩
    · exact d2
    · have hqp : q ≠ p := by
        rintro rfl
        rw [y3] at hbq
        exact absurd hbq (by decide)
      rw [List.getElem?_set_ne]
      · exact d2
      · rintro rfl
        rw [y2] at d2
        obtain rfl := Option.some.inj d2
        have : k0 = k1 := by omega
        subst this
        rw [x2] at y2
        obtain rfl := Option.some.inj y2
        omega
  · intro c hc h1
    dsimp only
    obtain ⟨c', hc', e1, e2, e3, e4, e5⟩ := hcal c hc
    rcases e5 with ⟨e5, e6⟩ | ⟨e5, e6, e7, e8, e9⟩
    · obtain ⟨r, hr, hm, hres⟩ := h.done c' hc' (by omega)
      exact ⟨r, by rw [l1]; exact List.mem_append_left _ hr, ⟨by rw [hm.1, e1], by rw [hm.2, e2]⟩, by rw [hres, e6]⟩
    · obtain ⟨r, hr, r1, r2, r3⟩ := hdone e9
      exact ⟨r, hr, ⟨by rw [r1, e6], by rw [r2, e7]⟩, by rw [r3, e8]⟩
  · intro r hr
    dsimp only at hr ⊢
    rw [l1] at hr
    rcases List.mem_append.1 hr with hr | hr
    · obtain ⟨c, hc, hm, hop⟩ := h.known r hr
      obtain ⟨c', hc', e1, e2, e3⟩ := hcal' c hc
      exact ⟨c', hc', ⟨by rw [hm.1, e1], by rw [hm.2, e2]⟩, by rw [hop, e3]⟩
    · obtain ⟨q, hq, hbq, q1, q2, q3, _⟩ := l2 r hr
      obtain ⟨k, c, d1, d2, d3, d4, d5, d6⟩ := h.cur q hq hbq
      obtain ⟨c', hc', e1, e2, e3⟩ := hcal' c (List.mem_of_getElem? d2)
      exact ⟨c', hc', ⟨by rw [q1, e1, d3], by rw [q2, e2, d4]⟩, by rw [q3, e3, d6]⟩
  · intro c hc d hd h1 h2 a b r s ha hb' hr hs
    dsimp only at ha hb'
    obtain ⟨c', hc', e1, e2, e3, e4, e5⟩ := hcal c hc
    obtain ⟨d', hd', f1, f2, f3, f4, f5⟩ := hcal d hd
    have hfrom := (h.mine d' hd').2.2.2.2.1
    rcases e5 with ⟨e5, e6⟩ | ⟨e5, _⟩
    · have hs' : MatchC s c' := ⟨by rw [hs.1, e1], by rw [hs.2, e2]⟩
      obtain ⟨t, ht, hmt, _⟩ := h.done c' hc' (by omega)
      obtain ⟨b', hb1, rfl⟩ := List.getElem_of_mem ht
      have hb2 : (m.log (m.go R.e p))[b']? = some (m.log R.e)[b'] := by rw [l1, List.getElem?_append_left hb1]; exact List.getElem?_eq_getElem hb1
      have hbb : b = b' := pair_same twin_symm once' hb' hb2 fun k => k ⟨by rw [hs'.1, hmt.1], by rw [hs'.2, hmt.2]⟩
      subst hbb
      by_cases hal : a < (m.log R.e).length
      · rw [l1, List.getElem?_append_left hal] at ha
        rw [l1, List.getElem?_append_left hb1] at hb'
        exact h.order c' hc' d' hd' (by omega) (by omega) a b r s ha hb' ⟨by rw [hr.1, f1], by rw [hr.2, f2]⟩ hs'
      · omega
    · omega

end Go.Proofs.Ytiofhmlkgieclaa

