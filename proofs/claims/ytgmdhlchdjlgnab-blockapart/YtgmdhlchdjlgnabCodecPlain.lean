/- Codec: operations and states as bytes, over plain lists, and what follows. -/
import Derived.Test.YtgmdhlchdjlgnabPack1
import Derived.Test.YtgmdhlchdjlgnabObjsBase
namespace Go.Proofs.Ytgmdhlchdjlgnab

theorem zig_lt {n : Int} (h : I64 n) : Lib.zigzag n < 18446744073709551616 := by
  obtain ⟨h0, h1⟩ := h
  unfold Lib.zigzag
  split <;> omega

theorem zag_i64 {u : Nat} (h : u < 18446744073709551616) : I64 (zag u) := zag_range u h

/-- A number that is cut off is none. -/
theorem dec64_cut (u c : Nat) (hu : u < 18446744073709551616) (hc : c < (Lib.uvarint u).length) : dec64 ((Lib.uvarint u).take c) = (0, 0) := by
  have hlen : (Lib.uvarint u).length ≤ 10 := Lib.uvarint_length 9 u (Nat.lt_of_lt_of_le hu (by decide))
  have h : dec 10 ((Lib.uvarint u).take c) = none := by
    apply dec_miss
    intro j hj hjl
    have hjc : j < c := by simp at hjl; omega
    have e : ((Lib.uvarint u).take c).getD j 0 = (Lib.uvarint u).getD j 0 := by
      simp [List.getD, hjc]
    rw [e]
    exact uvarint_open 10 u j hlen (by omega)
  unfold dec64
  rw [h]

theorem dec62_cut (u c : Nat) (hu : u < 4611686018427387904) (hc : c < (Lib.uvarint u).length) : dec62 ((Lib.uvarint u).take c) = (0, 0) := by
  unfold dec62
  rw [dec64_cut u c (by omega) hc]
  rfl

theorem dec62_le (l : List UInt8) : (dec62 l).2 ≤ l.length := by
  rcases dec62_cases l with h | h
  · rw [h]; exact Nat.zero_le _
  · exact h.2.2.1

/-- An operation's bytes. -/
def putOpL (o : Opn) : List UInt8 := Lib.uvarint o.code.toNat ++ (Lib.uvarint (Lib.zigzag o.a) ++ Lib.uvarint (Lib.zigzag o.b))

/-- The operation that bytes begin with, and how many they are. -/
def getOpL (l : List UInt8) : Opn × Nat :=
  if (dec62 l).2 = 0 ∨ (dec64 (l.drop (dec62 l).2)).2 = 0 ∨ (dec64 (l.drop ((dec62 l).2 + (dec64 (l.drop (dec62 l).2)).2))).2 = 0 ∨ ¬ FitsO ⟨((dec62 l).1 : Int), zag (dec64 (l.drop (dec62 l).2)).1, zag (dec64 (l.drop ((dec62 l).2 + (dec64 (l.drop (dec62 l).2)).2))).1⟩ then (⟨0, 0, 0⟩, 0)
  else (⟨((dec62 l).1 : Int), zag (dec64 (l.drop (dec62 l).2)).1, zag (dec64 (l.drop ((dec62 l).2 + (dec64 (l.drop (dec62 l).2)).2))).1⟩, (dec62 l).2 + (dec64 (l.drop (dec62 l).2)).2 + (dec64 (l.drop ((dec62 l).2 + (dec64 (l.drop (dec62 l).2)).2))).2)

theorem fits_i64 {o : Opn} (h : FitsO o) : I64 o.a ∧ I64 o.b := by
  obtain ⟨_, _, h1, h2, h3, h4⟩ := h
  exact ⟨i64_small (by omega) (by omega), i64_small (by omega) (by omega)⟩

theorem uv_ne (u : Nat) : (Lib.uvarint u).length ≠ 0 := by have := Lib.uvarint_pos u; omega

theorem getOp_put (o : Opn) (h : FitsO o) (t : List UInt8) : getOpL (putOpL o ++ t) = (o, (putOpL o).length) := by
  obtain ⟨ia, ib⟩ := fits_i64 h
  have hc0 := h.1
  have hc1 := h.2.1
  have d1 : dec62 (putOpL o ++ t) = (o.code.toNat, (Lib.uvarint o.code.toNat).length) := by
    unfold putOpL
    rw [List.append_assoc]
    exact dec62_uvarint _ _ (by omega)
  have e1 : (putOpL o ++ t).drop (Lib.uvarint o.code.toNat).length = Lib.uvarint (Lib.zigzag o.a) ++ (Lib.uvarint (Lib.zigzag o.b) ++ t) := by
    unfold putOpL
    rw [List.append_assoc, List.drop_left, List.append_assoc]
  have d2 := dec64_uvarint (Lib.zigzag o.a) (Lib.uvarint (Lib.zigzag o.b) ++ t) (zig_lt ia)
  have e2 : (putOpL o ++ t).drop ((Lib.uvarint o.code.toNat).length + (Lib.uvarint (Lib.zigzag o.a)).length) = Lib.uvarint (Lib.zigzag o.b) ++ t := by
    rw [← List.drop_drop, e1, List.drop_left]
  have d3 := dec64_uvarint (Lib.zigzag o.b) t (zig_lt ib)
  have eo : (⟨((o.code.toNat : Nat) : Int), zag (Lib.zigzag o.a), zag (Lib.zigzag o.b)⟩ : Opn) = o := by
    rw [zag_zigzag _ ia.1 ia.2, zag_zigzag _ ib.1 ib.2]
    obtain ⟨c, a, b⟩ := o
    simp only [Opn.mk.injEq, and_true]
    simp only at hc0
    omega
  unfold getOpL
  simp only [d1, e1, d2, e2, d3]
  rw [if_neg, eo]
  · simp only [Prod.mk.injEq, true_and]
    unfold putOpL
    simp only [List.length_append]
    omega
  · rw [eo]
    rintro (h1 | h1 | h1 | h1)
    · exact uv_ne _ h1
    · exact uv_ne _ h1
    · exact uv_ne _ h1
    · exact h1 h

theorem getOp_le (l : List UInt8) : (getOpL l).2 ≤ l.length := by
  unfold getOpL
  split
  · exact Nat.zero_le _
  · have h1 := dec62_le l
    have h2 := dec64_le (l.drop (dec62 l).2)
    have h3 := dec64_le (l.drop ((dec62 l).2 + (dec64 (l.drop (dec62 l).2)).2))
    simp only [List.length_drop] at h2 h3
    show (dec62 l).2 + _ + _ ≤ _
    omega

theorem getOp_none {l : List UInt8} (h : (getOpL l).2 = 0) : (getOpL l).1 = ⟨0, 0, 0⟩ := by
  unfold getOpL at h ⊢
  split
  · rfl
  · rename_i hn
    rw [if_neg hn] at h
    simp only at h
    omega

theorem take_split (l : List UInt8) (i j : Nat) : l.take (i + j) = l.take i ++ (l.drop i).take j := by
  rw [List.take_add]

theorem getOp_sound {l : List UInt8} (h : (getOpL l).2 ≠ 0) : FitsO (getOpL l).1 ∧ putOpL (getOpL l).1 = l.take (getOpL l).2 := by
  unfold getOpL at h ⊢
  by_cases hn : (dec62 l).2 = 0 ∨ (dec64 (l.drop (dec62 l).2)).2 = 0 ∨ (dec64 (l.drop ((dec62 l).2 + (dec64 (l.drop (dec62 l).2)).2))).2 = 0 ∨ ¬ FitsO ⟨((dec62 l).1 : Int), zag (dec64 (l.drop (dec62 l).2)).1, zag (dec64 (l.drop ((dec62 l).2 + (dec64 (l.drop (dec62 l).2)).2))).1⟩
  · rw [if_pos hn] at h
    exact absurd rfl h
  · rw [if_neg hn]
    have h1 : (dec62 l).2 ≠ 0 := fun e => hn (.inl e)
    have h2 : (dec64 (l.drop (dec62 l).2)).2 ≠ 0 := fun e => hn (.inr (.inl e))
    have h3 : (dec64 (l.drop ((dec62 l).2 + (dec64 (l.drop (dec62 l).2)).2))).2 ≠ 0 := fun e => hn (.inr (.inr (.inl e)))
    have h4 : FitsO ⟨((dec62 l).1 : Int), zag (dec64 (l.drop (dec62 l).2)).1, zag (dec64 (l.drop ((dec62 l).2 + (dec64 (l.drop (dec62 l).2)).2))).1⟩ := Classical.byContradiction fun e => hn (.inr (.inr (.inr e)))
    refine ⟨h4, ?_⟩
    have c1 : l.take (dec62 l).2 = Lib.uvarint (dec62 l).1 := by
      rcases dec62_cases l with e | e
      · rw [e] at h1; exact absurd rfl h1
      · exact e.2.2.2
    have c2 : (l.drop (dec62 l).2).take (dec64 (l.drop (dec62 l).2)).2 = Lib.uvarint (dec64 (l.drop (dec62 l).2)).1 := by
      rcases dec64_cases (l.drop (dec62 l).2) with e | e
      · rw [e] at h2; exact absurd rfl h2
      · exact e.2.2.2
    have c3 : (l.drop ((dec62 l).2 + (dec64 (l.drop (dec62 l).2)).2)).take (dec64 (l.drop ((dec62 l).2 + (dec64 (l.drop (dec62 l).2)).2))).2 = Lib.uvarint (dec64 (l.drop ((dec62 l).2 + (dec64 (l.drop (dec62 l).2)).2))).1 := by
      rcases dec64_cases (l.drop ((dec62 l).2 + (dec64 (l.drop (dec62 l).2)).2)) with e | e
      · rw [e] at h3; exact absurd rfl h3
      · exact e.2.2.2
    unfold putOpL
    simp only [zigzag_zag]
    rw [take_split, take_split, c1, c2, c3, List.append_assoc]
    rfl

/-- Two operations of which one's bytes begin the other's are one. -/
theorem putOp_apart {o p : Opn} (ho : FitsO o) (hp : FitsO p) {t : List UInt8} (h : putOpL p = putOpL o ++ t) : o = p := by
  have h1 := getOp_put o ho t
  have h2 := getOp_put p hp []
  rw [List.append_nil, h] at h2
  rw [h1] at h2
  injection h2

/-- Numbers as bytes. -/
def numsL : List Int → List UInt8
  | [] => []
  | x :: r => Lib.uvarint (Lib.zigzag x) ++ numsL r

/-- What a state is sealed for, as a number. -/
def sealN (s : St) : Nat := if s.shut = true then s.eng.toNat + 1 else 0

/-- A state's bytes. -/
def encS (s : St) : List UInt8 := Lib.uvarint s.kind.toNat ++ (Lib.uvarint (sealN s) ++ (Lib.uvarint s.L.length ++ numsL s.L))

/-- So many numbers that bytes begin with, and how many bytes they are. -/
def readL : Nat → List UInt8 → Option (List Int × Nat)
  | 0, _ => some ([], 0)
  | n + 1, l => if (dec64 l).2 = 0 then none else (readL n (l.drop (dec64 l).2)).map fun x => (zag (dec64 l).1 :: x.1, (dec64 l).2 + x.2)

/-- The state of three numbers and a list. -/
def mkS (kind sl : Nat) (xs : List Int) : St := ⟨kind, xs, decide (0 < sl), if 0 < sl then (sl : Int) - 1 else 0⟩

def zeroS : St := ⟨0, [], false, 0⟩

/-- What comes of three numbers and the bytes behind them. -/
def restS (kind sl many : Nat) (l : List UInt8) : St × Int :=
  match readL many l with
  | none => (zeroS, 3)
  | some (xs, u) => if u ≠ l.length then (zeroS, 3) else if MayS (mkS kind sl xs) then (mkS kind sl xs, 0) else (zeroS, 1)

/-- The state that bytes are, and the error. -/
def decS (l : List UInt8) : St × Int :=
  if (dec62 l).2 = 0 ∨ (dec62 (l.drop (dec62 l).2)).2 = 0 ∨ (dec62 (l.drop ((dec62 l).2 + (dec62 (l.drop (dec62 l).2)).2))).2 = 0 ∨ 3 < (dec62 (l.drop (dec62 l).2)).1 ∨ 128 < (dec62 (l.drop ((dec62 l).2 + (dec62 (l.drop (dec62 l).2)).2))).1 then (zeroS, 3)
  else restS (dec62 l).1 (dec62 (l.drop (dec62 l).2)).1 (dec62 (l.drop ((dec62 l).2 + (dec62 (l.drop (dec62 l).2)).2))).1 (l.drop ((dec62 l).2 + (dec62 (l.drop (dec62 l).2)).2 + (dec62 (l.drop ((dec62 l).2 + (dec62 (l.drop (dec62 l).2)).2))).2))

theorem readL_nums : ∀ (L : List Int) (t : List UInt8), (∀ x ∈ L, I64 x) → readL L.length (numsL L ++ t) = some (L, (numsL L).length)
  | [], t, _ => rfl
  | x :: r, t, h => by
    have hx := h x (by simp)
    have ih := readL_nums r t (fun y hy => h y (by simp [hy]))
    have d := dec64_uvarint (Lib.zigzag x) (numsL r ++ t) (zig_lt hx)
    rw [List.length_cons, numsL, List.append_assoc, readL, d]
    simp only
    rw [if_neg (uv_ne _), List.drop_left, ih, zag_zigzag x hx.1 hx.2]
    simp

theorem readL_sound : ∀ (n : Nat) (l : List UInt8) (xs : List Int) (u : Nat), readL n l = some (xs, u) → xs.length = n ∧ u ≤ l.length ∧ numsL xs = l.take u ∧ ∀ x ∈ xs, I64 x
  | 0, l, xs, u, h => by
    simp only [readL, Option.some.injEq, Prod.mk.injEq] at h
    obtain ⟨rfl, rfl⟩ := h
    exact ⟨rfl, Nat.zero_le _, by simp [numsL], fun x hx => by simp at hx⟩
  | n + 1, l, xs, u, h => by
    rw [readL] at h
    by_cases h0 : (dec64 l).2 = 0
    · rw [if_pos h0] at h; cases h
    · rw [if_neg h0] at h
      obtain ⟨⟨ys, k⟩, hy, he⟩ := Option.map_eq_some_iff.1 h
      simp only [Prod.mk.injEq] at he
      obtain ⟨rfl, rfl⟩ := he
      obtain ⟨i1, i2, i3, i4⟩ := readL_sound n _ ys k hy
      rcases dec64_cases l with e | ⟨e1, e2, e3, e4⟩
      · rw [e] at h0; exact absurd rfl h0
      · simp only [List.length_drop] at i2
        refine ⟨by simp [i1], by omega, ?_, ?_⟩
        · rw [numsL, zigzag_zag, i3, take_split, e4]
        · intro x hx
          rcases List.mem_cons.1 hx with rfl | hx
          · exact zag_i64 e1
          · exact i4 x hx

theorem readL_cut : ∀ (L : List Int) (c : Nat), (∀ x ∈ L, I64 x) → c < (numsL L).length → readL L.length ((numsL L).take c) = none
  | [], c, _, hc => by simp [numsL] at hc
  | x :: r, c, h, hc => by
    have hx := h x (by simp)
    rw [List.length_cons, readL]
    by_cases hl : c < (Lib.uvarint (Lib.zigzag x)).length
    · have e : (numsL (x :: r)).take c = (Lib.uvarint (Lib.zigzag x)).take c := by
        rw [numsL, List.take_append_of_le_length (by omega)]
      rw [e, dec64_cut _ _ (zig_lt hx) hl, if_pos rfl]
    · have e : (numsL (x :: r)).take c = Lib.uvarint (Lib.zigzag x) ++ (numsL r).take (c - (Lib.uvarint (Lib.zigzag x)).length) := by
        rw [numsL, List.take_append, List.take_of_length_le (by omega)]
      have hc' : c - (Lib.uvarint (Lib.zigzag x)).length < (numsL r).length := by
        rw [numsL, List.length_append] at hc
        omega
      rw [e, dec64_uvarint _ _ (zig_lt hx)]
      simp only
      rw [if_neg (uv_ne _), List.drop_left, readL_cut r _ (fun y hy => h y (by simp [hy])) hc']
      rfl

theorem sealN_le {s : St} (h : MayS s) : sealN s ≤ 3 := by
  have := h.1
  have := h.2.1
  unfold sealN
  split <;> omega

theorem mkS_enc {s : St} (h : MayS s) : mkS s.kind.toNat (sealN s) s.L = s := by
  obtain ⟨k, l, sh, g⟩ := s
  have h1 : 0 ≤ g := h.1
  have h4 : 0 ≤ k := h.2.2.2.1
  have h3 : sh = false → g = 0 := h.2.2.1
  unfold mkS sealN
  cases sh with
  | true => simp; omega
  | false =>
    have := h3 rfl
    simp
    omega

theorem may_small {s : St} (h : MayS s) : s.kind.toNat < 4611686018427387904 ∧ s.L.length ≤ 128 ∧ ∀ x ∈ s.L, I64 x := by
  have h0 := h.2.2.2.1
  have h6 := h.2.2.2.2.1
  have hn := h.2.2.2.2.2
  by_cases h4 : s.kind = 4
  · rw [h4, numsOk_4] at hn
    refine ⟨by omega, hn.1, fun x hx => ?_⟩
    have hb : ∀ (l : List Int) (lo : Int), -1 ≤ lo → Pairs (-1099511627776) lo l → ∀ x ∈ l, I64 x := by
      intro l
      match l with
      | [] => intro _ _ _ x hx; simp at hx
      | [_] => intro _ _ h; simp [Pairs] at h
      | a :: b :: r => exact pairsW a b r
    exact hb s.L (-1) (by decide) hn.2 x hx
  · by_cases h5 : s.kind = 5
    · rw [h5, numsOk_5] at hn
      exact ⟨by omega, hn.1, fun x hx => by have := pairs_mem (by decide) hn.2 x hx; exact i64_small (by omega) (by omega)⟩
    · have hl := (numsOk_list h4 h5).1 hn
      exact ⟨by omega, by omega, fun x hx => by have := (inBounds_iff _).1 hl.2.2 x hx; exact i64_small (by omega) (by omega)⟩
where
  pairsW (a b : Int) (r : List Int) : ∀ (lo : Int), -1 ≤ lo → Pairs (-1099511627776) lo (a :: b :: r) → ∀ x ∈ a :: b :: r, I64 x := by
    intro lo hlo h x hx
    unfold Pairs at h
    simp at hx
    rcases hx with rfl | rfl | hx
    · exact i64_small (by omega) (by omega)
    · exact i64_small (by omega) (by omega)
    · match r, hx, h with
      | a2 :: b2 :: r2, hx, h => exact pairsW a2 b2 r2 a (by omega) h.2.2.2.2 x hx
      | [c], _, h => simp [Pairs] at h

theorem decS_three (k s m : Nat) (t : List UInt8) (hk : k < 4611686018427387904) (hs : s ≤ 3) (hm : m ≤ 128) : decS (Lib.uvarint k ++ (Lib.uvarint s ++ (Lib.uvarint m ++ t))) = restS k s m t := by
  have d1 := dec62_uvarint k (Lib.uvarint s ++ (Lib.uvarint m ++ t)) hk
  have e1 : (Lib.uvarint k ++ (Lib.uvarint s ++ (Lib.uvarint m ++ t))).drop (Lib.uvarint k).length = Lib.uvarint s ++ (Lib.uvarint m ++ t) := List.drop_left
  have d2 := dec62_uvarint s (Lib.uvarint m ++ t) (by omega)
  have e2 : (Lib.uvarint k ++ (Lib.uvarint s ++ (Lib.uvarint m ++ t))).drop ((Lib.uvarint k).length + (Lib.uvarint s).length) = Lib.uvarint m ++ t := by rw [← List.drop_drop, e1, List.drop_left]
  have d3 := dec62_uvarint m t (by omega)
  have e3 : (Lib.uvarint k ++ (Lib.uvarint s ++ (Lib.uvarint m ++ t))).drop ((Lib.uvarint k).length + (Lib.uvarint s).length + (Lib.uvarint m).length) = t := by rw [← List.drop_drop, e2, List.drop_left]
  unfold decS
  simp only [d1, e1, d2, e2, d3, e3]
  rw [if_neg]
  rintro (h | h | h | h | h)
  · exact uv_ne _ h
  · exact uv_ne _ h
  · exact uv_ne _ h
  · omega
  · omega

theorem decS_enc {s : St} (h : MayS s) : decS (encS s) = (s, 0) := by
  obtain ⟨h1, h2, h3⟩ := may_small h
  unfold encS
  rw [decS_three _ _ _ _ h1 (sealN_le h) h2]
  have hr := readL_nums s.L [] h3
  rw [List.append_nil] at hr
  unfold restS
  rw [hr]
  simp only
  rw [if_neg (by simp), mkS_enc h, if_pos h]

/-- With something behind it a state's bytes are none. -/
theorem decS_more {s : St} (h : MayS s) (t : List UInt8) (ht : t ≠ []) : decS (encS s ++ t) = (zeroS, 3) := by
  obtain ⟨h1, h2, h3⟩ := may_small h
  unfold encS
  rw [List.append_assoc, List.append_assoc, List.append_assoc, decS_three _ _ _ _ h1 (sealN_le h) h2]
  unfold restS
  rw [readL_nums s.L t h3]
  simp only
  rw [if_pos]
  have : 0 < t.length := List.length_pos_iff.2 ht
  simp
  omega

theorem dec62_app_cut (u : Nat) (t : List UInt8) (c : Nat) (hu : u < 4611686018427387904) : (c < (Lib.uvarint u).length ∧ (dec62 ((Lib.uvarint u ++ t).take c)).2 = 0) ∨ ((Lib.uvarint u).length ≤ c ∧ (Lib.uvarint u ++ t).take c = Lib.uvarint u ++ t.take (c - (Lib.uvarint u).length)) := by
  by_cases hc : c < (Lib.uvarint u).length
  · left
    rw [List.take_append_of_le_length (by omega), dec62_cut u c hu hc]
    exact ⟨hc, rfl⟩
  · right
    rw [List.take_append, List.take_of_length_le (by omega)]
    exact ⟨by omega, rfl⟩

/-- A state's bytes without the last ones are none. -/
theorem decS_cut {s : St} (h : MayS s) (c : Nat) (hc : c < (encS s).length) : decS ((encS s).take c) = (zeroS, 3) := by
  obtain ⟨h1, h2, h3⟩ := may_small h
  have hs := sealN_le h
  unfold encS at hc ⊢
  generalize s.kind.toNat = k at *
  generalize sealN s = m at *
  rcases dec62_app_cut k (Lib.uvarint m ++ (Lib.uvarint s.L.length ++ numsL s.L)) c h1 with ⟨_, z⟩ | ⟨l1, e1⟩
  · unfold decS
    rw [if_pos (.inl z)]
  rw [e1]
  have d1 := fun t => dec62_uvarint k t h1
  rcases dec62_app_cut m (Lib.uvarint s.L.length ++ numsL s.L) (c - (Lib.uvarint k).length) (by omega) with ⟨_, z⟩ | ⟨l2, e2⟩
  · unfold decS
    rw [if_pos]
    right; left
    rw [d1, List.drop_left]
    exact z
  rw [e2]
  rcases dec62_app_cut s.L.length (numsL s.L) (c - (Lib.uvarint k).length - (Lib.uvarint m).length) (by omega) with ⟨_, z⟩ | ⟨l3, e3⟩
  · unfold decS
    rw [if_pos]
    right; right; left
    have d2 := fun t => dec62_uvarint m t (by omega)
    rw [d1]
    simp only [List.drop_left]
    rw [d2]
    simp only
    rw [← List.drop_drop, List.drop_left, List.drop_left]
    exact z
  rw [e3, decS_three _ _ _ _ h1 hs h2]
  unfold restS
  rw [readL_cut s.L _ h3 (by simp only [List.length_append] at hc; omega)]

theorem decS_codes (l : List UInt8) : (decS l).2 = 0 ∨ ((decS l).1 = zeroS ∧ ((decS l).2 = 3 ∨ (decS l).2 = 1)) := by
  unfold decS
  split
  · exact .inr ⟨rfl, .inl rfl⟩
  · unfold restS
    split
    · exact .inr ⟨rfl, .inl rfl⟩
    · split
      · exact .inr ⟨rfl, .inl rfl⟩
      · split
        · exact .inl rfl
        · exact .inr ⟨rfl, .inr rfl⟩

/-- What is decoded may be, and is encoded as just these bytes. -/
theorem decS_sound {l : List UInt8} (h : (decS l).2 = 0) : MayS (decS l).1 ∧ encS (decS l).1 = l := by
  unfold decS at h ⊢
  by_cases hn : (dec62 l).2 = 0 ∨ (dec62 (l.drop (dec62 l).2)).2 = 0 ∨ (dec62 (l.drop ((dec62 l).2 + (dec62 (l.drop (dec62 l).2)).2))).2 = 0 ∨ 3 < (dec62 (l.drop (dec62 l).2)).1 ∨ 128 < (dec62 (l.drop ((dec62 l).2 + (dec62 (l.drop (dec62 l).2)).2))).1
  · rw [if_pos hn] at h
    cases h
  · rw [if_neg hn] at h ⊢
    have h1 : (dec62 l).2 ≠ 0 := fun e => hn (.inl e)
    have h2 : (dec62 (l.drop (dec62 l).2)).2 ≠ 0 := fun e => hn (.inr (.inl e))
    have h3 : (dec62 (l.drop ((dec62 l).2 + (dec62 (l.drop (dec62 l).2)).2))).2 ≠ 0 := fun e => hn (.inr (.inr (.inl e)))
    have c1 : l.take (dec62 l).2 = Lib.uvarint (dec62 l).1 := by
      rcases dec62_cases l with e | e
      · rw [e] at h1; exact absurd rfl h1
      · exact e.2.2.2
    have c2 : (l.drop (dec62 l).2).take (dec62 (l.drop (dec62 l).2)).2 = Lib.uvarint (dec62 (l.drop (dec62 l).2)).1 := by
      rcases dec62_cases (l.drop (dec62 l).2) with e | e
      · rw [e] at h2; exact absurd rfl h2
      · exact e.2.2.2
    have c3 : (l.drop ((dec62 l).2 + (dec62 (l.drop (dec62 l).2)).2)).take (dec62 (l.drop ((dec62 l).2 + (dec62 (l.drop (dec62 l).2)).2))).2 = Lib.uvarint (dec62 (l.drop ((dec62 l).2 + (dec62 (l.drop (dec62 l).2)).2))).1 := by
      rcases dec62_cases (l.drop ((dec62 l).2 + (dec62 (l.drop (dec62 l).2)).2)) with e | e
      · rw [e] at h3; exact absurd rfl h3
      · exact e.2.2.2
    generalize (dec62 (l.drop ((dec62 l).2 + (dec62 (l.drop (dec62 l).2)).2))).2 = k at *
    generalize (dec62 (l.drop ((dec62 l).2 + (dec62 (l.drop (dec62 l).2)).2))).1 = many at *
    generalize (dec62 (l.drop (dec62 l).2)).2 = j at *
    generalize (dec62 (l.drop (dec62 l).2)).1 = sl at *
    generalize (dec62 l).2 = i at *
    generalize (dec62 l).1 = kind at *
    unfold restS at h ⊢
    cases hr : readL many (l.drop (i + j + k)) with
    | none => rw [hr] at h; cases h
    | some x =>
      obtain ⟨xs, u⟩ := x
      rw [hr] at h
      simp only at h ⊢
      obtain ⟨r1, r2, r3, r4⟩ := readL_sound _ _ _ _ hr
      by_cases hu : u ≠ (l.drop (i + j + k)).length
      · rw [if_pos hu] at h; cases h
      · rw [if_neg hu] at h ⊢
        by_cases hm : MayS (mkS kind sl xs)
        · rw [if_pos hm]
          refine ⟨hm, ?_⟩
          have hu' : u = (l.drop (i + j + k)).length := Classical.byContradiction hu
          rw [hu', List.take_length] at r3
          have ek : (mkS kind sl xs).kind.toNat = kind := by simp [mkS]
          have es : sealN (mkS kind sl xs) = sl := by
            unfold sealN mkS
            by_cases h0 : 0 < sl
            · simp [h0]; omega
            · simp [h0]; omega
          show Lib.uvarint (mkS kind sl xs).kind.toNat ++ (Lib.uvarint (sealN (mkS kind sl xs)) ++ (Lib.uvarint xs.length ++ numsL xs)) = l
          rw [ek, es, r1, r3, ← c1, ← c2, ← c3]
          have f1 : l.drop (i + j) = (l.drop i).drop j := by rw [List.drop_drop]
          have f2 : l.drop (i + j + k) = ((l.drop i).drop j).drop k := by rw [List.drop_drop, List.drop_drop, Nat.add_assoc]
          rw [f1, f2, List.take_append_drop, List.take_append_drop, List.take_append_drop]
        · rw [if_neg hm] at h; cases h

end Go.Proofs.Ytgmdhlchdjlgnab
