import Derived.Test.YtddhcohjmgdajaaDoorPack1
import Derived.Deep.RegionLaw
/- Codec: operations and states as bytes, over plain lists, and what follows. -/
namespace Go.Proofs.YtddhcohjmgdajaaDoor

theorem zig_lt {n : Int} (h : I64 n) : Lib.zigzag n < 18446744073709551616 := by
  obtain ⟨h0, h1⟩ := h
  unfold Lib.zigzag
  split <;> omega

theorem zag_i64 {u : Nat} (h : u < 18446744073709551616) : I64 (zag u) := zag_range u h

/-- A number that is cut off is none. -/
theorem dec64_cut (u c : Nat) (hu : u < 18446744073709551616) (hc : c < (Lib.uvarint u).length) : dec64 ((Lib.uvarint u).take c) = (0, 0) := by
  have hlen : (Lib.uvarint u).length ≤ 10 := Lib.uvarint_length 9 u (Nat.lt_of_lt_of_le hu (by decide))
  have h : dec 10 ((Lib.uvarint u).take c) = none := by
    apply dec_miss
    intro j hj hjl
    have hjc : j < c := by simp at hjl; omega
    have e : ((Lib.uvarint u).take c).getD j 0 = (Lib.uvarint u).getD j 0 := by
      simp [List.getD, hjc]
    rw [e]
    exact uvarint_open 10 u j hlen (by omega)
  unfold dec64
  rw [h]

theorem dec62_cut (u c : Nat) (hu : u < 4611686018427387904) (hc : c < (Lib.uvarint u).length) : dec62 ((Lib.uvarint u).take c) = (0, 0) := by
  unfold dec62
  rw [dec64_cut u c (by omega) hc]
  rfl

theorem dec62_le (l : List UInt8) : (dec62 l).2 ≤ l.length := by
  rcases dec62_cases l with h | h
  · rw [h]; exact Nat.zero_le _
  · exact h.2.2.1

/-- An operation's bytes. -/
def putOpL (o : Opn) : List UInt8 := Lib.uvarint o.code.toNat ++ (Lib.uvarint (Lib.zigzag o.a) ++ Lib.uvarint (Lib.zigzag o.b))

/-- The operation that bytes begin with, and how many they are. -/
def getOpL (l : List UInt8) : Opn × Nat :=
  if (dec62 l).2 = 0 ∨ (dec64 (l.drop (dec62 l).2)).2 = 0 ∨ (dec64 (l.drop ((dec62 l).2 + (dec64 (l.drop (dec62 l).2)).2))).2 = 0 ∨ ¬ FitsO ⟨((dec62 l).1 : Int), zag (dec64 (l.drop (dec62 l).2)).1, zag (dec64 (l.drop ((dec62 l).2 + (dec64 (l.drop (dec62 l).2)).2))).1⟩ then (⟨0, 0, 0⟩, 0)
  else (⟨((dec62 l).1 : Int), zag (dec64 (l.drop (dec62 l).2)).1, zag (dec64 (l.drop ((dec62 l).2 + (dec64 (l.drop (dec62 l).2)).2))).1⟩, (dec62 l).2 + (dec64 (l.drop (dec62 l).2)).2 + (dec64 (l.drop ((dec62 l).2 + (dec64 (l.drop (dec62 l).2)).2))).2)

theorem fits_i64 {o : Opn} (h : FitsO o) : I64 o.a ∧ I64 o.b := by
  obtain ⟨_, _, h1, h2, h3, h4⟩ := h
  exact ⟨i64_small (by omega) (by omega), i64_small (by omega) (by omega)⟩

theorem uv_ne (u : Nat) : (Lib.uvarint u).length ≠ 0 := by have := Lib.uvarint_pos u; omega

theorem getOp_put (o : Opn) (h : FitsO o) (t : List UInt8) : getOpL (putOpL o ++ t) = (o, (putOpL o).length) := by
  obtain ⟨ia, ib⟩ := fits_i64 h
  have hc0 := h.1
  have hc1 := h.2.1
  have d1 : dec62 (putOpL o ++ t) = (o.code.toNat, (Lib.uvarint o.code.toNat).length) := by
    unfold putOpL
    rw [List.append_assoc]
    exact dec62_uvarint _ _ (by omega)
  have e1 : (putOpL o ++ t).drop (Lib.uvarint o.code.toNat).length = Lib.uvarint (Lib.zigzag o.a) ++ (Lib.uvarint (Lib.zigzag o.b) ++ t) := by
    unfold putOpL
    rw [List.append_assoc, List.drop_left, List.append_assoc]
  have d2 := dec64_uvarint (Lib.zigzag o.a) (Lib.uvarint (Lib.zigzag o.b) ++ t) (zig_lt ia)
  have e2 : (putOpL o ++ t).drop ((Lib.uvarint o.code.toNat).length + (Lib.uvarint (Lib.zigzag o.a)).length) = Lib.uvarint (Lib.zigzag o.b) ++ t := by
    rw [← List.drop_drop, e1, List.drop_left]
  have d3 := dec64_uvarint (Lib.zigzag o.b) t (zig_lt ib)
  have eo : (⟨((o.code.toNat : Nat) : Int), zag (Lib.zigzag o.a), zag (Lib.zigzag o.b)⟩ : Opn) = o := by
    rw [zag_zigzag _ ia.1 ia.2, zag_zigzag _ ib.1 ib.2]
    obtain ⟨c, a, b⟩ := o
    simp only [Opn.mk.injEq, and_true]
    simp only at hc0
    omega
  unfold getOpL
  simp only [d1, e1, d2, e2, d3]
  rw [if_neg, eo]
  · simp only [Prod.mk.injEq, true_and]
    unfold putOpL
    simp only [List.length_append]
    omega
  · rw [eo]
    rintro (h1 | h1 | h1 | h1)
    · exact uv_ne _ h1
    · exact uv_ne _ h1
    · exact uv_ne _ h1
    · exact h1 h

theorem getOp_le (l : List UInt8) : (getOpL l).2 ≤ l.length := by
  unfold getOpL
  split
  · exact Nat.zero_le _
  · have h1 := dec62_le l
    have h2 := dec64_le (l.drop (dec62 l).2)
    have h3 := dec64_le (l.drop ((dec62 l).2 + (dec64 (l.drop (dec62 l).2)).2))
    simp only [List.length_drop] at h2 h3
    show (dec62 l).2 + _ + _ ≤ _
    omega

theorem getOp_none {l : List UInt8} (h : (getOpL l).2 = 0) : (getOpL l).1 = ⟨0, 0, 0⟩ := by
  unfold getOpL at h ⊢
  split
  · rfl
  · rename_i hn
    rw [if_neg hn] at h
    simp only at h
    omega

theorem take_split (l : List UInt8) (i j : Nat) : l.take (i + j) = l.take i ++ (l.drop i).take j := by
  rw [List.take_add]

theorem getOp_sound {l : List UInt8} (h : (getOpL l).2 ≠ 0) : FitsO (getOpL l).1 ∧ putOpL (getOpL l).1 = l.take (getOpL l).2 := by
  unfold getOpL at h ⊢
  by_cases hn : (dec62 l).2 = 0 ∨ (dec64 (l.drop (dec62 l).2)).2 = 0 ∨ (dec64 (l.drop ((dec62 l).2 + (dec64 (l.drop (dec62 l).2)).2))).2 = 0 ∨ ¬ FitsO ⟨((dec62 l).1 : Int), zag (dec64 (l.drop (dec62 l).2)).1, zag (dec64 (l.drop ((dec62 l).2 + (dec64 (l.drop (dec62 l).2)).2))).1⟩
  · rw [if_pos hn] at h
    exact absurd rfl h
  · rw [if_neg hn]
    have h1 : (dec62 l).2 ≠ 0 := fun e => hn (.inl e)
    have h2 : (dec64 (l.drop (dec62 l).2)).2 ≠ 0 := fun e => hn (.inr (.inl e))
    have h3 : (dec64 (l.drop ((dec62 l).2 + (dec64 (l.drop (dec62 l).2)).2))).2 ≠ 0 := fun e => hn (.inr (.inr (.inl e)))
    have h4 : FitsO ⟨((dec62 l).1 : Int), zag (dec64 (l.drop (dec62 l).2)).1, zag (dec64 (l.drop ((dec62 l).2 + (dec64 (l.drop (dec62 l).2)).2))).1⟩ := Classical.byContradiction fun e => hn (.inr (.inr (.inr e)))
    refine ⟨h4, ?_⟩
    have c1 : l.take (dec62 l).2 = Lib.uvarint (dec62 l).1 := by
      rcases dec62_cases l with e | e
      · rw [e] at h1; exact absurd rfl h1
      · exact e.2.2.2
    have c2 : (l.drop (dec62 l).2).take (dec64 (l.drop (dec62 l).2)).2 = Lib.uvarint (dec64 (l.drop (dec62 l).2)).1 := by
      rcases dec64_cases (l.drop (dec62 l).2) with e | e
      · rw [e] at h2; exact absurd rfl h2
      · exact e.2.2.2
    have c3 : (l.drop ((dec62 l).2 + (dec64 (l.drop (dec62 l).2)).2)).take (dec64 (l.drop ((dec62 l).2 + (dec64 (l.drop (dec62 l).2)).2))).2 = Lib.uvarint (dec64 (l.drop ((dec62 l).2 + (dec64 (l.drop (dec62 l).2)).2))).1 := by
      rcases dec64_cases (l.drop ((dec62 l).2 + (dec64 (l.drop (dec62 l).2)).2)) with e | e
      · rw [e] at h3; exact absurd rfl h3
      · exact e.2.2.2
    unfold putOpL
    simp only [zigzag_zag]
    rw [take_split, take_split, c1, c2, c3, List.append_assoc]
    rfl

/-- Two operations of which one's bytes begin the other's are one. -/
theorem putOp_apart {o p : Opn} (ho : FitsO o) (hp : FitsO p) {t : List UInt8} (h : putOpL p = putOpL o ++ t) : o = p := by
  have h1 := getOp_put o ho t
  have h2 := getOp_put p hp []
  rw [List.append_nil, h] at h2
  rw [h1] at h2
  injection h2

/-- Numbers as bytes. -/
def numsL : List Int → List UInt8
  | [] => []
  | x :: r => Lib.uvarint (Lib.zigzag x) ++ numsL r

/-- What a state is sealed for, as a number. -/
def sealN (s : St) : Nat := if s.shut = true then s.eng.toNat + 1 else 0

/-- A state's bytes. -/
def encS (s : St) : List UInt8 := Lib.uvarint s.kind.toNat ++ (Lib.uvarint (sealN s) ++ (Lib.uvarint s.L.length ++ numsL s.L))

/-- So many numbers that bytes begin with, and how many bytes they are. -/
def readL : Nat → List UInt8 → Option (List Int × Nat)
  | 0, _ => some ([], 0)
  | n + 1, l => if (dec64 l).2 = 0 then none else (readL n (l.drop (dec64 l).2)).map fun x => (zag (dec64 l).1 :: x.1, (dec64 l).2 + x.2)

/-- The state of three numbers and a list. -/
def mkS (kind sl : Nat) (xs : List Int) : St := ⟨kind, xs, decide (0 < sl), if 0 < sl then (sl : Int) - 1 else 0⟩

def zeroS : St := ⟨0, [], false, 0⟩

/-- What comes of three numbers and the bytes behind them. -/
def restS (kind sl many : Nat) (l : List UInt8) : St × Int :=
  match readL many l with
  | none => (zeroS, 3)
  | some (xs, u) => if u ≠ l.length then (zeroS, 3) else if MayS (mkS kind sl xs) then (mkS kind sl xs, 0) else (zeroS, 1)

/-- The state that bytes are, and the error. -/
def decS (l : List UInt8) : St × Int :=
  if (dec62 l).2 = 0 ∨ (dec62 (l.drop (dec62 l).2)).2 = 0 ∨ (dec62 (l.drop ((dec62 l).2 + (dec62 (l.drop (dec62 l).2)).2))).2 = 0 ∨ 3 < (dec62 (l.drop (dec62 l).2)).1 ∨ 128 < (dec62 (l.drop ((dec62 l).2 + (dec62 (l.drop (dec62 l).2)).2))).1 then (zeroS, 3)
  else restS (dec62 l).1 (dec62 (l.drop (dec62 l).2)).1 (dec62 (l.drop ((dec62 l).2 + (dec62 (l.drop (dec62 l).2)).2))).1 (l.drop ((dec62 l).2 + (dec62 (l.drop (dec62 l).2)).2 + (dec62 (l.drop ((dec62 l).2 + (dec62 (l.drop (dec62 l).2)).2))).2))

theorem readL_nums : ∀ (L : List Int) (t : List UInt8), (∀ x ∈ L, I64 x) → readL L.length (numsL L ++ t) = some (L, (numsL L).length)
  | [], t, _ => rfl
  | x :: r, t, h => by
    have hx := h x (by simp)
    have ih := readL_nums r t (fun y hy => h y (by simp [hy]))
    have d := dec64_uvarint (Lib.zigzag x) (numsL r ++ t) (zig_lt hx)
    rw [List.length_cons, numsL, List.append_assoc, readL, d]
    simp only
    rw [if_neg (uv_ne _), List.drop_left, ih, zag_zigzag x hx.1 hx.2]
    simp

theorem readL_sound : ∀ (n : Nat) (l : List UInt8) (xs : List Int) (u : Nat), readL n l = some (xs, u) → xs.length = n ∧ u ≤ l.length ∧ numsL xs = l.take u ∧ ∀ x ∈ xs, I64 x
  | 0, l, xs, u, h => by
    simp only [readL, Option.some.injEq, Prod.mk.injEq] at h
    obtain ⟨rfl, rfl⟩ := h
    exact ⟨rfl, Nat.zero_le _, by simp [numsL], fun x hx => by simp at hx⟩
  | n + 1, l, xs, u, h => by
    rw [readL] at h
    by_cases h0 : (dec64 l).2 = 0
    · rw [if_pos h0] at h; cases h
    · rw [if_neg h0] at h
      obtain ⟨⟨ys, k⟩, hy, he⟩ := Option.map_eq_some_iff.1 h
      simp only [Prod.mk.injEq] at he
      obtain ⟨rfl, rfl⟩ := he
      obtain ⟨i1, i2, i3, i4⟩ := readL_sound n _ ys k hy
      rcases dec64_cases l with e | ⟨e1, e2, e3, e4⟩
      · rw [e] at h0; exact absurd rfl h0
      · simp only [List.length_drop] at i2
        refine ⟨by simp [i1], by omega, ?_, ?_⟩
        · rw [numsL, zigzag_zag, i3, take_split, e4]
        · intro x hx
          rcases List.mem_cons.1 hx with rfl | hx
          · exact zag_i64 e1
          · exact i4 x hx

theorem readL_cut : ∀ (L : List Int) (c : Nat), (∀ x ∈ L, I64 x) → c < (numsL L).length → readL L.length ((numsL L).take c) = none
  | [], c, _, hc => by simp [numsL] at hc
  | x :: r, c, h, hc => by
    have hx := h x (by simp)
    rw [List.length_cons, readL]
    by_cases hl : c < (Lib.uvarint (Lib.zigzag x)).length
    · have e : (numsL (x :: r)).take c = (Lib.uvarint (Lib.zigzag x)).take c := by
        rw [numsL, List.take_append_of_le_length (by omega)]
      rw [e, dec64_cut _ _ (zig_lt hx) hl, if_pos rfl]
    · have e : (numsL (x :: r)).take c = Lib.uvarint (Lib.zigzag x) ++ (numsL r).take (c - (Lib.uvarint (Lib.zigzag x)).length) := by
        rw [numsL, List.take_append, List.take_of_length_le (by omega)]
      have hc' : c - (Lib.uvarint (Lib.zigzag x)).length < (numsL r).length := by
        rw [numsL, List.length_append] at hc
        omega
      rw [e, dec64_uvarint _ _ (zig_lt hx)]
      simp only
      rw [if_neg (uv_ne _), List.drop_left, readL_cut r _ (fun y hy => h y (by simp [hy])) hc']
      rfl

theorem sealN_le {s : St} (h : MayS s) : sealN s ≤ 3 := by
  have := h.1
  have := h.2.1
  unfold sealN
  split <;> omega

theorem mkS_enc {s : St} (h : MayS s) : mkS s.kind.toNat (sealN s) s.L = s := by
  obtain ⟨k, l, sh, g⟩ := s
  have h1 : 0 ≤ g := h.1
  have h4 : 0 ≤ k := h.2.2.2.1
  have h3 : sh = false → g = 0 := h.2.2.1
  unfold mkS sealN
  cases sh with
  | true => simp; omega
  | false =>
    have := h3 rfl
    simp
    omega

theorem may_small {s : St} (h : MayS s) : s.kind.toNat < 4611686018427387904 ∧ s.L.length ≤ 128 ∧ ∀ x ∈ s.L, I64 x := by
  have h0 := h.2.2.2.1
  have h6 := h.2.2.2.2.1
  have hn := h.2.2.2.2.2
  by_cases h4 : s.kind = 4
  · rw [h4, numsOk_4] at hn
    refine ⟨by omega, hn.1, fun x hx => ?_⟩
    have hb : ∀ (l : List Int) (lo : Int), -1 ≤ lo → Pairs (-1099511627776) lo l → ∀ x ∈ l, I64 x := by
      intro l
      match l with
      | [] => intro _ _ _ x hx; simp at hx
      | [_] => intro _ _ h; simp [Pairs] at h
      | a :: b :: r => exact pairsW a b r
    exact hb s.L (-1) (by decide) hn.2 x hx
  · by_cases h5 : s.kind = 5
    · rw [h5, numsOk_5] at hn
      exact ⟨by omega, hn.1, fun x hx => by have := pairs_mem (by decide) hn.2 x hx; exact i64_small (by omega) (by omega)⟩
    · have hl := (numsOk_list h4 h5).1 hn
      exact ⟨by omega, by omega, fun x hx => by have := (inBounds_iff _).1 hl.2.2 x hx; exact i64_small (by omega) (by omega)⟩
where
  pairsW (a b : Int) (r : List Int) : ∀ (lo : Int), -1 ≤ lo → Pairs (-1099511627776) lo (a :: b :: r) → ∀ x ∈ a :: b :: r, I64 x := by
    intro lo hlo h x hx
    unfold Pairs at h
    simp at hx
    rcases hx with rfl | rfl | hx
    · exact i64_small (by omega) (by omega)
    · exact i64_small (by omega) (by omega)
    · match r, hx, h with
      | a2 :: b2 :: r2, hx, h => exact pairsW a2 b2 r2 a (by omega) h.2.2.2.2 x hx
      | [c], _, h => simp [Pairs] at h

theorem decS_three (k s m : Nat) (t : List UInt8) (hk : k < 4611686018427387904) (hs : s ≤ 3) (hm : m ≤ 128) : decS (Lib.uvarint k ++ (Lib.uvarint s ++ (Lib.uvarint m ++ t))) = restS k s m t := by
  have d1 := dec62_uvarint k (Lib.uvarint s ++ (Lib.uvarint m ++ t)) hk
  have e1 : (Lib.uvarint k ++ (Lib.uvarint s ++ (Lib.uvarint m ++ t))).drop (Lib.uvarint k).length = Lib.uvarint s ++ (Lib.uvarint m ++ t) := List.drop_left
  have d2 := dec62_uvarint s (Lib.uvarint m ++ t) (by omega)
  have e2 : (Lib.uvarint k ++ (Lib.uvarint s ++ (Lib.uvarint m ++ t))).drop ((Lib.uvarint k).length + (Lib.uvarint s).length) = Lib.uvarint m ++ t := by rw [← List.drop_drop, e1, List.drop_left]
  have d3 := dec62_uvarint m t (by omega)
  have e3 : (Lib.uvarint k ++ (Lib.uvarint s ++ (Lib.uvarint m ++ t))).drop ((Lib.uvarint k).length + (Lib.uvarint s).length + (Lib.uvarint m).length) = t := by rw [← List.drop_drop, e2, List.drop_left]
  unfold decS
  simp only [d1, e1, d2, e2, d3, e3]
  rw [if_neg]
  rintro (h | h | h | h | h)
  · exact uv_ne _ h
  · exact uv_ne _ h
  · exact uv_ne _ h
  · omega
  · omega

theorem decS_enc {s : St} (h : MayS s) : decS (encS s) = (s, 0) := by
  obtain ⟨h1, h2, h3⟩ := may_small h
  unfold encS
  rw [decS_three _ _ _ _ h1 (sealN_le h) h2]
  have hr := readL_nums s.L [] h3
  rw [List.append_nil] at hr
  unfold restS
  rw [hr]
  simp only
  rw [if_neg (by simp), mkS_enc h, if_pos h]

/-- With something behind it a state's bytes are none. -/
theorem decS_more {s : St} (h : MayS s) (t : List UInt8) (ht : t ≠ []) : decS (encS s ++ t) = (zeroS, 3) := by
  obtain ⟨h1, h2, h3⟩ := may_small h
  unfold encS
  rw [List.append_assoc, List.append_assoc, List.append_assoc, decS_three _ _ _ _ h1 (sealN_le h) h2]
  unfold restS
  rw [readL_nums s.L t h3]
  simp only
  rw [if_pos]
  have : 0 < t.length := List.length_pos_iff.2 ht
  simp
  omega

theorem dec62_app_cut (u : Nat) (t : List UInt8) (c : Nat) (hu : u < 4611686018427387904) : (c < (Lib.uvarint u).length ∧ (dec62 ((Lib.uvarint u ++ t).take c)).2 = 0) ∨ ((Lib.uvarint u).length ≤ c ∧ (Lib.uvarint u ++ t).take c = Lib.uvarint u ++ t.take (c - (Lib.uvarint u).length)) := by
  by_cases hc : c < (Lib.uvarint u).length
  · left
    rw [List.take_append_of_le_length (by omega), dec62_cut u c hu hc]
    exact ⟨hc, rfl⟩
  · right
    rw [List.take_append, List.take_of_length_le (by omega)]
    exact ⟨by omega, rfl⟩

/-- A state's bytes without the last ones are none. -/
theorem decS_cut {s : St} (h : MayS s) (c : Nat) (hc : c < (encS s).length) : decS ((encS s).take c) = (zeroS, 3) := by
  obtain ⟨h1, h2, h3⟩ := may_small h
  have hs := sealN_le h
  unfold encS at hc ⊢
  generalize s.kind.toNat = k at *
  generalize sealN s = m at *
  rcases dec62_app_cut k (Lib.uvarint m ++ (Lib.uvarint s.L.length ++ numsL s.L)) c h1 with ⟨_, z⟩ | ⟨l1, e1⟩
  · unfold decS
    rw [if_pos (.inl z)]
  rw [e1]
  have d1 := fun t => dec62_uvarint k t h1
  rcases dec62_app_cut m (Lib.uvarint s.L.length ++ numsL s.L) (c - (Lib.uvarint k).length) (by omega) with ⟨_, z⟩ | ⟨l2, e2⟩
  · unfold decS
    rw [if_pos]
    right; left
    rw [d1, List.drop_left]
    exact z
  rw [e2]
  rcases dec62_app_cut s.L.length (numsL s.L) (c - (Lib.uvarint k).length - (Lib.uvarint m).length) (by omega) with ⟨_, z⟩ | ⟨l3, e3⟩
  · unfold decS
    rw [if_pos]
    right; right; left
    have d2 := fun t => dec62_uvarint m t (by omega)
    rw [d1]
    simp only [List.drop_left]
    rw [d2]
    simp only
    rw [← List.drop_drop, List.drop_left, List.drop_left]
    exact z
  rw [e3, decS_three _ _ _ _ h1 hs h2]
  unfold restS
  rw [readL_cut s.L _ h3 (by simp only [List.length_append] at hc; omega)]

theorem decS_codes (l : List UInt8) : (decS l).2 = 0 ∨ ((decS l).1 = zeroS ∧ ((decS l).2 = 3 ∨ (decS l).2 = 1)) := by
  unfold decS
  split
  · exact .inr ⟨rfl, .inl rfl⟩
  · unfold restS
    split
    · exact .inr ⟨rfl, .inl rfl⟩
    · split
      · exact .inr ⟨rfl, .inl rfl⟩
      · split
        · exact .inl rfl
        · exact .inr ⟨rfl, .inr rfl⟩

/-- What is decoded may be, and is encoded as just these bytes. -/
theorem decS_sound {l : List UInt8} (h : (decS l).2 = 0) : MayS (decS l).1 ∧ encS (decS l).1 = l := by
  unfold decS at h ⊢
  by_cases hn : (dec62 l).2 = 0 ∨ (dec62 (l.drop (dec62 l).2)).2 = 0 ∨ (dec62 (l.drop ((dec62 l).2 + (dec62 (l.drop (dec62 l).2)).2))).2 = 0 ∨ 3 < (dec62 (l.drop (dec62 l).2)).1 ∨ 128 < (dec62 (l.drop ((dec62 l).2 + (dec62 (l.drop (dec62 l).2)).2))).1
  · rw [if_pos hn] at h
    cases h
  · rw [if_neg hn] at h ⊢
    have h1 : (dec62 l).2 ≠ 0 := fun e => hn (.inl e)
    have h2 : (dec62 (l.drop (dec62 l).2)).2 ≠ 0 := fun e => hn (.inr (.inl e))
    have h3 : (dec62 (l.drop ((dec62 l).2 + (dec62 (l.drop (dec62 l).2)).2))).2 ≠ 0 := fun e => hn (.inr (.inr (.inl e)))
    have c1 : l.take (dec62 l).2 = Lib.uvarint (dec62 l).1 := by
      rcases dec62_cases l with e | e
      · rw [e] at h1; exact absurd rfl h1
      · exact e.2.2.2
    have c2 : (l.drop (dec62 l).2).take (dec62 (l.drop (dec62 l).2)).2 = Lib.uvarint (dec62 (l.drop (dec62 l).2)).1 := by
      rcases dec62_cases (l.drop (dec62 l).2) with e | e
      · rw [e] at h2; exact absurd rfl h2
      · exact e.2.2.2
    have c3 : (l.drop ((dec62 l).2 + (dec62 (l.drop (dec62 l).2)).2)).take (dec62 (l.drop ((dec62 l).2 + (dec62 (l.drop (dec62 l).2)).2))).2 = Lib.uvarint (dec62 (l.drop ((dec62 l).2 + (dec62 (l.drop (dec62 l).2)).2))).1 := by
      rcases dec62_cases (l.drop ((dec62 l).2 + (dec62 (l.drop (dec62 l).2)).2)) with e | e
      · rw [e] at h3; exact absurd rfl h3
      · exact e.2.2.2
    generalize (dec62 (l.drop ((dec62 l).2 + (dec62 (l.drop (dec62 l).2)).2))).2 = k at *
    generalize (dec62 (l.drop ((dec62 l).2 + (dec62 (l.drop (dec62 l).2)).2))).1 = many at *
    generalize (dec62 (l.drop (dec62 l).2)).2 = j at *
    generalize (dec62 (l.drop (dec62 l).2)).1 = sl at *
    generalize (dec62 l).2 = i at *
    generalize (dec62 l).1 = kind at *
    unfold restS at h ⊢
    cases hr : readL many (l.drop (i + j + k)) with
    | none => rw [hr] at h; cases h
    | some x =>
      obtain ⟨xs, u⟩ := x
      rw [hr] at h
      simp only at h ⊢
      obtain ⟨r1, r2, r3, r4⟩ := readL_sound _ _ _ _ hr
      by_cases hu : u ≠ (l.drop (i + j + k)).length
      · rw [if_pos hu] at h; cases h
      · rw [if_neg hu] at h ⊢
        by_cases hm : MayS (mkS kind sl xs)
        · rw [if_pos hm]
          refine ⟨hm, ?_⟩
          have hu' : u = (l.drop (i + j + k)).length := Classical.byContradiction hu
          rw [hu', List.take_length] at r3
          have ek : (mkS kind sl xs).kind.toNat = kind := by simp [mkS]
          have es : sealN (mkS kind sl xs) = sl := by
            unfold sealN mkS
            by_cases h0 : 0 < sl
            · simp [h0]; omega
            · simp [h0]; omega
          show Lib.uvarint (mkS kind sl xs).kind.toNat ++ (Lib.uvarint (sealN (mkS kind sl xs)) ++ (Lib.uvarint xs.length ++ numsL xs)) = l
          rw [ek, es, r1, r3, ← c1, ← c2, ← c3]
          have f1 : l.drop (i + j) = (l.drop i).drop j := by rw [List.drop_drop]
          have f2 : l.drop (i + j + k) = ((l.drop i).drop j).drop k := by rw [List.drop_drop, List.drop_drop, Nat.add_assoc]
          rw [f1, f2, List.take_append_drop, List.take_append_drop, List.take_append_drop]
        · rw [if_neg hm] at h; cases h

end Go.Proofs.YtddhcohjmgdajaaDoor

/- Schema: records as bytes in three versions, over plain lists, and what follows. -/
namespace Go.Proofs.YtddhcohjmgdajaaDoor

/-- A record. -/
structure Rec where
  idx : Int
  proc : Int
  seq : Int
  op : Opn
  resp : Int

def zeroR : Rec := ⟨0, 0, 0, ⟨0, 0, 0⟩, 0⟩

def FitsR (r : Rec) : Prop := FitsO r.op ∧ 0 ≤ r.idx ∧ r.idx < 4611686018427387904 ∧ 0 ≤ r.seq ∧ r.seq < 4611686018427387904 ∧ 0 ≤ r.proc ∧ r.proc ≤ 64 ∧ -1125899906842624 ≤ r.resp ∧ r.resp ≤ 1125899906842624

instance (r : Rec) : Decidable (FitsR r) := by unfold FitsR; infer_instance

/-- A record as a version can tell it. -/
def upgR (v : Int) (r : Rec) : Rec := ⟨r.idx, r.proc, if v < 2 then 0 else r.seq, r.op, if v < 3 then 0 else r.resp⟩

/-- Has a version a field? -/
def hasV (v f : Nat) : Prop := f = 1 ∨ f = 2 ∨ f = 4 ∨ (f = 3 ∧ 2 ≤ v) ∨ (f = 5 ∧ v = 3)

instance (v f : Nat) : Decidable (hasV v f) := by unfold hasV; infer_instance

/-- A field's bytes. -/
def bytesF (r : Rec) (f : Nat) : List UInt8 :=
  if f = 1 then Lib.uvarint r.idx.toNat else if f = 2 then Lib.uvarint r.proc.toNat else if f = 3 then Lib.uvarint r.seq.toNat
  else if f = 4 then putOpL r.op else Lib.uvarint (Lib.zigzag r.resp)

/-- A record with another's field. -/
def setF (src r : Rec) (f : Nat) : Rec :=
  if f = 1 then { r with idx := src.idx } else if f = 2 then { r with proc := src.proc } else if f = 3 then { r with seq := src.seq }
  else if f = 4 then { r with op := src.op } else { r with resp := src.resp }

/-- A record with the value that bytes begin with, and how many these are. -/
def valueF (r : Rec) (f : Nat) (l : List UInt8) : Rec × Nat :=
  if f = 1 then ({ r with idx := ((dec62 l).1 : Int) }, (dec62 l).2) else if f = 2 then ({ r with proc := ((dec62 l).1 : Int) }, (dec62 l).2)
  else if f = 3 then ({ r with seq := ((dec62 l).1 : Int) }, (dec62 l).2) else if f = 4 then ({ r with op := (getOpL l).1 }, (getOpL l).2)
  else ({ r with resp := zag (dec64 l).1 }, (dec64 l).2)

theorem ne_nil_of {l : List UInt8} (h : 0 < l.length) : l ≠ [] := by intro e; rw [e] at h; simp at h

set_option linter.unusedVariables false in
/-- The fields, one by one, up to the end: the record and how many there were, or the error. -/
def walkV (v : Nat) (l : List UInt8) (last : Int) (found : Nat) (r : Rec) : Except Int (Rec × Nat) :=
  if hl : l = [] then .ok (r, found)
  else if hk : (dec62 l).2 = 0 ∨ ((dec62 l).1 : Int) ≤ last then .error 3
  else if hasV v (dec62 l).1 then
    if (valueF r (dec62 l).1 (l.drop (dec62 l).2)).2 = 0 then .error 3
    else walkV v (l.drop ((dec62 l).2 + (valueF r (dec62 l).1 (l.drop (dec62 l).2)).2)) (dec62 l).1 (found + 1) (valueF r (dec62 l).1 (l.drop (dec62 l).2)).1
  else if (dec62 l).1 < 16 ∨ v = 3 then .error 7
  else if (dec62 (l.drop (dec62 l).2)).2 = 0 ∨ l.length < (dec62 l).2 + (dec62 (l.drop (dec62 l).2)).2 + (dec62 (l.drop (dec62 l).2)).1 then .error 3
  else walkV v (l.drop ((dec62 l).2 + (dec62 (l.drop (dec62 l).2)).2 + (dec62 (l.drop (dec62 l).2)).1)) (dec62 l).1 found r
termination_by l.length
decreasing_by
  all_goals
    have h1 : l.length ≠ 0 := by simpa using hl
    have h2 : (dec62 l).2 ≠ 0 := fun e => hk (.inl e)
    rw [List.length_drop]
    omega

/-- What bytes are: a record, or the error. -/
def decR (l : List UInt8) : Rec × Int :=
  if l = [] then (zeroR, 2)
  else if (dec62 l).2 = 0 then (zeroR, 3)
  else if (dec62 l).1 < 1 ∨ 3 < (dec62 l).1 then (zeroR, 6)
  else match walkV (dec62 l).1 (l.drop (dec62 l).2) (-1) 0 zeroR with
    | .error e => (zeroR, e)
    | .ok (r, found) => if found ≠ (dec62 l).1 + 2 then (zeroR, 7) else if FitsR r then (r, 0) else (zeroR, 1)

/-- The fields of a version. -/
def fieldsV (v : Int) : List Nat := if v = 1 then [1, 2, 4] else if v = 2 then [1, 2, 3, 4] else [1, 2, 3, 4, 5]

def encFs (r : Rec) : List Nat → List UInt8
  | [] => []
  | f :: fs => Lib.uvarint f ++ (bytesF r f ++ encFs r fs)

/-- A record's bytes. -/
def encR (v : Int) (r : Rec) : List UInt8 := Lib.uvarint v.toNat ++ encFs r (fieldsV v)

theorem bytesF_ne (r : Rec) (f : Nat) : (bytesF r f).length ≠ 0 := by
  unfold bytesF putOpL
  repeat' split
  all_goals
    have := Lib.uvarint_pos r.idx.toNat
    have := Lib.uvarint_pos r.proc.toNat
    have := Lib.uvarint_pos r.seq.toNat
    have := Lib.uvarint_pos r.op.code.toNat
    have := Lib.uvarint_pos (Lib.zigzag r.resp)
    try simp only [List.length_append]
    omega

theorem fitsR_resp {r : Rec} (h : FitsR r) : I64 r.resp := i64_small (by have := h.2.2.2.2.2.2.2.1; omega) (by have := h.2.2.2.2.2.2.2.2; omega)

/-- A field that was put is read. -/
theorem valueF_put {src : Rec} (h : FitsR src) (r : Rec) (f : Nat) (t : List UInt8) : valueF r f (bytesF src f ++ t) = (setF src r f, (bytesF src f).length) := by
  have hr := fitsR_resp h
  obtain ⟨h1, h2, h3, h4, h5, h6, h7, h8, h9⟩ := h
  unfold valueF bytesF setF
  repeat' split
  · rw [dec62_uvarint _ _ (by omega), Int.toNat_of_nonneg h2]
  · rw [dec62_uvarint _ _ (by omega), Int.toNat_of_nonneg h6]
  · rw [dec62_uvarint _ _ (by omega), Int.toNat_of_nonneg h4]
  · rw [getOp_put _ h1]
  · rw [dec64_uvarint _ _ (zig_lt hr), zag_zigzag _ hr.1 hr.2]

theorem getOp_cut {o : Opn} (h : FitsO o) (c : Nat) (hc : c < (putOpL o).length) : (getOpL ((putOpL o).take c)).2 = 0 := by
  by_cases h0 : (getOpL ((putOpL o).take c)).2 = 0
  · exact h0
  · exfalso
    obtain ⟨h1, h2⟩ := getOp_sound h0
    have h3 := getOp_le ((putOpL o).take c)
    rw [List.length_take] at h3
    rw [List.take_take] at h2
    have h4 : putOpL o = putOpL (getOpL ((putOpL o).take c)).1 ++ (putOpL o).drop (min (getOpL ((putOpL o).take c)).2 c) := by
      rw [h2, List.take_append_drop]
    have h5 := putOp_apart h1 h h4
    rw [h5] at h2
    have h6 := congrArg List.length h2
    rw [List.length_take] at h6
    omega

/-- A field that is cut off is none. -/
theorem valueF_cut {src : Rec} (h : FitsR src) (r : Rec) (f c : Nat) (hc : c < (bytesF src f).length) : (valueF r f ((bytesF src f).take c)).2 = 0 := by
  have hr := fitsR_resp h
  obtain ⟨h1, h2, h3, h4, h5, h6, h7, h8, h9⟩ := h
  unfold valueF
  unfold bytesF at hc ⊢
  repeat' split
  · rename_i e
    rw [if_pos e] at hc
    rw [dec62_cut _ c (by omega) hc]
  · rename_i e1 e
    rw [if_neg e1, if_pos e] at hc
    rw [dec62_cut _ c (by omega) hc]
  · rename_i e1 e2 e
    rw [if_neg e1, if_neg e2, if_pos e] at hc
    rw [dec62_cut _ c (by omega) hc]
  · rename_i e1 e2 e3 e
    rw [if_neg e1, if_neg e2, if_neg e3, if_pos e] at hc
    exact getOp_cut h1 c hc
  · rename_i e1 e2 e3 e4
    rw [if_neg e1, if_neg e2, if_neg e3, if_neg e4] at hc
    rw [dec64_cut _ c (zig_lt hr) hc]

/-- One field that the version has, read. -/
theorem walk_has {v f : Nat} (hf : hasV v f) {l : List UInt8} {last : Int} {found : Nat} {r : Rec} (hlt : last < f) (hl : l ≠ []) {k : Nat} (hd : dec62 l = (f, k)) (hk : k ≠ 0) :
    walkV v l last found r = if (valueF r f (l.drop k)).2 = 0 then .error 3 else walkV v (l.drop (k + (valueF r f (l.drop k)).2)) f (found + 1) (valueF r f (l.drop k)).1 := by
  rw [walkV, dif_neg hl, dif_neg (by rw [hd]; simp only; omega), hd, if_pos hf]

theorem small_f {v f : Nat} (h : hasV v f) : 1 ≤ f ∧ f ≤ 5 := by unfold hasV at h; omega

theorem walk_field {src : Rec} (hs : FitsR src) {v f : Nat} (hf : hasV v f) (t : List UInt8) {last : Int} (hlt : last < f) (found : Nat) (r : Rec) :
    walkV v (Lib.uvarint f ++ (bytesF src f ++ t)) last found r = walkV v t f (found + 1) (setF src r f) := by
  have hb := small_f hf
  have hp := Lib.uvarint_pos f
  have hd := dec62_uvarint f (bytesF src f ++ t) (by omega)
  rw [walk_has hf hlt (ne_nil_of (by rw [List.length_append]; omega)) hd (by omega), List.drop_left, valueF_put hs, if_neg (bytesF_ne src f)]
  simp only
  rw [← List.drop_drop, List.drop_left, List.drop_left]

/-- Rising from a number on. -/
def Rising : Int → List Nat → Prop
  | _, [] => True
  | a, f :: fs => a < f ∧ Rising f fs

def lastOf : Int → List Nat → Int
  | a, [] => a
  | _, f :: fs => lastOf f fs

theorem walk_fs {src : Rec} (hs : FitsR src) {v : Nat} (t : List UInt8) : ∀ (fs : List Nat) (last : Int) (found : Nat) (r : Rec), Rising last fs → (∀ f ∈ fs, hasV v f) →
    walkV v (encFs src fs ++ t) last found r = walkV v t (lastOf last fs) (found + fs.length) (fs.foldl (setF src) r)
  | [], _, _, _, _, _ => rfl
  | f :: fs, last, found, r, hr, hh => by
    rw [encFs, List.append_assoc, List.append_assoc, walk_field hs (hh f (by simp)) _ hr.1, walk_fs hs t fs f (found + 1) _ hr.2 (fun g hg => hh g (by simp [hg]))]
    simp only [lastOf, List.length_cons, List.foldl_cons]
    rw [show found + 1 + fs.length = found + (fs.length + 1) by omega]

theorem walk_nil (v : Nat) (last : Int) (found : Nat) (r : Rec) : walkV v [] last found r = .ok (r, found) := by
  rw [walkV, dif_pos rfl]

/-- Fields that are cut off: an error, or fewer. -/
theorem walk_cut {src : Rec} (hs : FitsR src) {v : Nat} : ∀ (fs : List Nat) (c : Nat) (last : Int) (found : Nat) (r : Rec), Rising last fs → (∀ f ∈ fs, hasV v f) → c < (encFs src fs).length →
    walkV v ((encFs src fs).take c) last found r = .error 3 ∨ ∃ x n, walkV v ((encFs src fs).take c) last found r = .ok (x, n) ∧ n < found + fs.length
  | [], c, _, _, _, _, _, hc => by simp [encFs] at hc
  | f :: fs, c, last, found, r, hr, hh, hc => by
    have hf := hh f (by simp)
    have hb := small_f hf
    have hp := Lib.uvarint_pos f
    by_cases c0 : c = 0
    · subst c0
      rw [List.take_zero, walk_nil]
      exact .inr ⟨r, found, rfl, by simp⟩
    · by_cases c1 : c < (Lib.uvarint f).length
      · refine .inl ?_
        rw [encFs, List.take_append_of_le_length (by omega)]
        have hd := dec62_cut f c (by omega) c1
        rw [walkV, dif_neg (ne_nil_of (by rw [List.length_take]; omega)), dif_pos (by rw [hd]; exact .inl rfl)]
      · have e : (encFs src (f :: fs)).take c = Lib.uvarint f ++ (bytesF src f ++ encFs src fs).take (c - (Lib.uvarint f).length) := by
          rw [encFs, List.take_append, List.take_of_length_le (by omega)]
        rw [e]
        have hd := dec62_uvarint f ((bytesF src f ++ encFs src fs).take (c - (Lib.uvarint f).length)) (by omega)
        have hne : Lib.uvarint f ++ (bytesF src f ++ encFs src fs).take (c - (Lib.uvarint f).length) ≠ [] := ne_nil_of (by rw [List.length_append]; omega)
        by_cases c2 : c - (Lib.uvarint f).length < (bytesF src f).length
        · refine .inl ?_
          rw [walk_has hf hr.1 hne hd (by omega), List.drop_left, List.take_append_of_le_length (by omega), if_pos (valueF_cut hs r f _ c2)]
        · have e2 : (bytesF src f ++ encFs src fs).take (c - (Lib.uvarint f).length) = bytesF src f ++ (encFs src fs).take (c - (Lib.uvarint f).length - (bytesF src f).length) := by
            rw [List.take_append, List.take_of_length_le (by omega)]
          rw [e2, walk_field hs hf _ hr.1]
          have hc' : c - (Lib.uvarint f).length - (bytesF src f).length < (encFs src fs).length := by
            rw [encFs, List.length_append, List.length_append] at hc
            omega
          rcases walk_cut hs fs _ f (found + 1) (setF src r f) hr.2 (fun g hg => hh g (by simp [hg])) hc' with h | ⟨x, n, h, hn⟩
          · exact .inl h
          · exact .inr ⟨x, n, h, by simp only [List.length_cons]; omega⟩

theorem fields_ok {v : Int} (h1 : 1 ≤ v) (h3 : v ≤ 3) : Rising (-1) (fieldsV v) ∧ (∀ f ∈ fieldsV v, hasV v.toNat f) ∧ (fieldsV v).length = v.toNat + 2 := by
  have hv : v = 1 ∨ v = 2 ∨ v = 3 := by omega
  rcases hv with rfl | rfl | rfl
  · refine ⟨by simp [fieldsV, Rising], ?_, rfl⟩
    intro f hf
    simp [fieldsV] at hf
    unfold hasV
    omega
  · refine ⟨by simp [fieldsV, Rising], ?_, rfl⟩
    intro f hf
    simp [fieldsV] at hf
    unfold hasV
    omega
  · refine ⟨by simp [fieldsV, Rising], ?_, rfl⟩
    intro f hf
    simp [fieldsV] at hf
    unfold hasV
    omega

theorem fields_set {v : Int} (h1 : 1 ≤ v) (h3 : v ≤ 3) (r : Rec) : (fieldsV v).foldl (setF r) zeroR = upgR v r := by
  have hv : v = 1 ∨ v = 2 ∨ v = 3 := by omega
  rcases hv with rfl | rfl | rfl <;> rfl

theorem upg_fits {v : Int} {r : Rec} (h : FitsR r) : FitsR (upgR v r) := by
  obtain ⟨h1, h2, h3, h4, h5, h6, h7, h8, h9⟩ := h
  refine ⟨h1, h2, h3, ?_, ?_, h6, h7, ?_, ?_⟩
  all_goals
    simp only [upgR]
    split <;> omega

theorem decR_enc {v : Int} (h1 : 1 ≤ v) (h3 : v ≤ 3) {r : Rec} (hr : FitsR r) : decR (encR v r) = (upgR v r, 0) := by
  obtain ⟨a, b, c⟩ := fields_ok h1 h3
  have hp := Lib.uvarint_pos v.toNat
  have hd := dec62_uvarint v.toNat (encFs r (fieldsV v)) (by omega)
  have hw := walk_fs hr [] (fieldsV v) (-1) 0 zeroR a b
  rw [List.append_nil, walk_nil, fields_set h1 h3] at hw
  unfold decR
  rw [if_neg (ne_nil_of (by unfold encR; rw [List.length_append]; omega))]
  unfold encR
  rw [hd]
  simp only
  rw [if_neg (by omega), if_neg (by omega), List.drop_left, hw]
  simp only
  rw [if_neg (by omega), if_pos (upg_fits hr)]

/-- Bytes that are cut off are no record. -/
theorem decR_cut {v : Int} (h1 : 1 ≤ v) (h3 : v ≤ 3) {r : Rec} (hr : FitsR r) (c : Nat) (hc : c < (encR v r).length) : (decR ((encR v r).take c)).2 ≠ 0 := by
  obtain ⟨a, b, n⟩ := fields_ok h1 h3
  have hp := Lib.uvarint_pos v.toNat
  have hv1 : (Lib.uvarint v.toNat).length = 1 := by rw [Lib.uvarint_small (by omega)]; rfl
  by_cases c0 : c = 0
  · subst c0
    rw [List.take_zero]
    simp [decR]
  · have e : (encR v r).take c = Lib.uvarint v.toNat ++ (encFs r (fieldsV v)).take (c - (Lib.uvarint v.toNat).length) := by
      unfold encR
      rw [List.take_append, List.take_of_length_le (by omega)]
    have hd := dec62_uvarint v.toNat ((encFs r (fieldsV v)).take (c - (Lib.uvarint v.toNat).length)) (by omega)
    have hc' : c - (Lib.uvarint v.toNat).length < (encFs r (fieldsV v)).length := by
      unfold encR at hc
      rw [List.length_append] at hc
      omega
    have hw := walk_cut hr (fieldsV v) _ (-1) 0 zeroR a b hc'
    rw [e]
    unfold decR
    rw [if_neg (ne_nil_of (by rw [List.length_append]; omega)), hd]
    simp only
    rw [if_neg (by omega), if_neg (by omega), List.drop_left]
    rcases hw with h | ⟨x, m, h, hm⟩
    · rw [h]
      show (3 : Int) ≠ 0
      decide
    · rw [h]
      simp only
      rw [if_pos (by omega)]
      decide

theorem dec62_take {l : List UInt8} (h : (dec62 l).2 ≠ 0) : Lib.uvarint (dec62 l).1 = l.take (dec62 l).2 := by
  rcases dec62_cases l with e | e
  · rw [e] at h; exact absurd rfl h
  · exact e.2.2.2.symm

theorem dec64_take {l : List UInt8} (h : (dec64 l).2 ≠ 0) : Lib.uvarint (dec64 l).1 = l.take (dec64 l).2 := by
  rcases dec64_cases l with e | e
  · rw [e] at h; exact absurd rfl h
  · exact e.2.2.2.symm

/-- A field that is read: its bytes, and no other field changes. -/
theorem value_sound (r : Rec) (f : Nat) (l : List UInt8) (hf : 1 ≤ f ∧ f ≤ 5) (h : (valueF r f l).2 ≠ 0) :
    bytesF (valueF r f l).1 f = l.take (valueF r f l).2 ∧ ∀ g : Nat, g ≠ f → 1 ≤ g → g ≤ 5 → bytesF (valueF r f l).1 g = bytesF r g := by
  have hc : f = 1 ∨ f = 2 ∨ f = 3 ∨ f = 4 ∨ f = 5 := by omega
  rcases hc with rfl | rfl | rfl | rfl | rfl
  · refine ⟨?_, fun g hg g1 g5 => ?_⟩
    · exact dec62_take h
    · have hg : g = 2 ∨ g = 3 ∨ g = 4 ∨ g = 5 := by omega
      rcases hg with rfl | rfl | rfl | rfl <;> rfl
  · refine ⟨?_, fun g hg g1 g5 => ?_⟩
    · exact dec62_take h
    · have hg : g = 1 ∨ g = 3 ∨ g = 4 ∨ g = 5 := by omega
      rcases hg with rfl | rfl | rfl | rfl <;> rfl
  · refine ⟨?_, fun g hg g1 g5 => ?_⟩
    · exact dec62_take h
    · have hg : g = 1 ∨ g = 2 ∨ g = 4 ∨ g = 5 := by omega
      rcases hg with rfl | rfl | rfl | rfl <;> rfl
  · refine ⟨?_, fun g hg g1 g5 => ?_⟩
    · exact (getOp_sound h).2
    · have hg : g = 1 ∨ g = 2 ∨ g = 3 ∨ g = 5 := by omega
      rcases hg with rfl | rfl | rfl | rfl <;> rfl
  · refine ⟨?_, fun g hg g1 g5 => ?_⟩
    · show Lib.uvarint (Lib.zigzag (zag (dec64 l).1)) = _
      rw [zigzag_zag]
      exact dec64_take h
    · have hg : g = 1 ∨ g = 2 ∨ g = 3 ∨ g = 4 := by omega
      rcases hg with rfl | rfl | rfl | rfl <;> rfl

/-- What is read in the newest version is what was put. -/
theorem walk3_sound : ∀ (n : Nat) (l : List UInt8) (last : Int) (found : Nat) (r r' : Rec) (found' : Nat), l.length ≤ n → walkV 3 l last found r = .ok (r', found') →
    ∃ fs, Rising last fs ∧ (∀ f ∈ fs, 1 ≤ f ∧ f ≤ 5) ∧ found' = found + fs.length ∧ l = encFs r' fs ∧ ∀ g : Nat, (g : Int) ≤ last → 1 ≤ g → g ≤ 5 → bytesF r' g = bytesF r g := by
  intro n
  induction n with
  | zero =>
    intro l last found r r' found' hn h
    have hl : l = [] := List.eq_nil_of_length_eq_zero (by omega)
    subst hl
    rw [walk_nil] at h
    injection h with h
    injection h with h1 h2
    subst h1
    subst h2
    exact ⟨[], trivial, by simp, by simp, rfl, fun _ _ _ _ => rfl⟩
  | succ n ih =>
    intro l last found r r' found' hn h
    by_cases hl : l = []
    · subst hl
      rw [walk_nil] at h
      injection h with h
      injection h with h1 h2
      subst h1
      subst h2
      exact ⟨[], trivial, by simp, by simp, rfl, fun _ _ _ _ => rfl⟩
    · rw [walkV, dif_neg hl] at h
      by_cases hk : (dec62 l).2 = 0 ∨ ((dec62 l).1 : Int) ≤ last
      · rw [dif_pos hk] at h
        cases h
      · rw [dif_neg hk] at h
        by_cases hh : hasV 3 (dec62 l).1
        · rw [if_pos hh] at h
          by_cases hm : (valueF r (dec62 l).1 (l.drop (dec62 l).2)).2 = 0
          · rw [if_pos hm] at h
            cases h
          · rw [if_neg hm] at h
            have hb := small_f hh
            obtain ⟨fs, i1, i2, i3, i4, i5⟩ := ih _ _ _ _ _ _ (by rw [List.length_drop]; omega) h
            have hc : l.take (dec62 l).2 = Lib.uvarint (dec62 l).1 := by
              rcases dec62_cases l with e | e
              · rw [e] at hk; exact absurd (.inl rfl) hk
              · exact e.2.2.2
            have hv := value_sound r (dec62 l).1 (l.drop (dec62 l).2) hb hm
            have hs := i5 (dec62 l).1 (Int.le_refl _) hb.1 hb.2
            refine ⟨(dec62 l).1 :: fs, ⟨by omega, i1⟩, ?_, by rw [i3]; simp only [List.length_cons]; omega, ?_, ?_⟩
            · intro f hf
              rcases List.mem_cons.1 hf with e | e
              · rw [e]; exact hb
              · exact i2 f e
            · rw [encFs, ← i4, hs, hv.1, ← hc, ← List.drop_drop, List.take_append_drop, List.take_append_drop]
            · intro g hg g1 g5
              rw [i5 g (by omega) g1 g5]
              exact hv.2 g (by omega) g1 g5
        · rw [if_neg hh, if_pos (.inr rfl)] at h
          cases h

theorem rising5 {fs : List Nat} (h1 : Rising (-1) fs) (h2 : ∀ f ∈ fs, 1 ≤ f ∧ f ≤ 5) (h3 : fs.length = 5) : fs = [1, 2, 3, 4, 5] := by
  match fs, h1, h2, h3 with
  | [a, b, c, d, e], ⟨i1, i2, i3, i4, i5, _⟩, h2, _ =>
    have ha := h2 a (by simp)
    have he := h2 e (by simp)
    have e1 : a = 1 := by omega
    have e2 : b = 2 := by omega
    have e3 : c = 3 := by omega
    have e4 : d = 4 := by omega
    have e5 : e = 5 := by omega
    rw [e1, e2, e3, e4, e5]

theorem walk_codes (v : Nat) : ∀ (n : Nat) (l : List UInt8) (last : Int) (found : Nat) (r : Rec) (e : Int), l.length ≤ n → walkV v l last found r = .error e → e = 3 ∨ e = 7 := by
  intro n
  induction n with
  | zero =>
    intro l last found r e hn h
    have hl : l = [] := List.eq_nil_of_length_eq_zero (by omega)
    subst hl
    rw [walk_nil] at h
    cases h
  | succ n ih =>
    intro l last found r e hn h
    by_cases hl : l = []
    · subst hl
      rw [walk_nil] at h
      cases h
    · rw [walkV, dif_neg hl] at h
      by_cases hk : (dec62 l).2 = 0 ∨ ((dec62 l).1 : Int) ≤ last
      · rw [dif_pos hk] at h
        injection h with h
        exact .inl h.symm
      · rw [dif_neg hk] at h
        split at h
        · split at h
          · injection h with h
            exact .inl h.symm
          · exact ih _ _ _ _ _ (by rw [List.length_drop]; omega) h
        · split at h
          · injection h with h
            exact .inr h.symm
          · split at h
            · injection h with h
              exact .inl h.symm
            · exact ih _ _ _ _ _ (by rw [List.length_drop]; omega) h

/-- With an error no record; else one that fits. -/
theorem decR_codes (l : List UInt8) : ((decR l).2 = 0 ∧ FitsR (decR l).1) ∨ ((decR l).2 ≠ 0 ∧ (decR l).1 = zeroR) := by
  unfold decR
  split
  · exact .inr ⟨by simp, rfl⟩
  split
  · exact .inr ⟨by simp, rfl⟩
  split
  · exact .inr ⟨by simp, rfl⟩
  split
  · rename_i e h
    rcases walk_codes _ _ _ _ _ _ _ (Nat.le_refl _) h with h | h
    · exact .inr ⟨by rw [h]; decide, rfl⟩
    · exact .inr ⟨by rw [h]; decide, rfl⟩
  · split
    · exact .inr ⟨by simp, rfl⟩
    · split
      · rename_i h
        exact .inl ⟨rfl, h⟩
      · exact .inr ⟨by simp, rfl⟩

/-- What is decoded of the newest version is encoded as just these bytes. -/
theorem decR_sound {t : List UInt8} (h : (decR (3 :: t)).2 = 0) : encR 3 (decR (3 :: t)).1 = 3 :: t := by
  have e3 : (3 :: t : List UInt8) = Lib.uvarint 3 ++ t := by rw [Lib.uvarint_small (by decide)]; rfl
  have hd := dec62_uvarint 3 t (by decide)
  have hl1 : (Lib.uvarint 3).length = 1 := by rw [Lib.uvarint_small (by decide)]; rfl
  rw [e3] at h ⊢
  unfold decR at h ⊢
  rw [if_neg (ne_nil_of (by rw [List.length_append]; omega)), hd] at h ⊢
  simp only [hl1] at h ⊢
  rw [if_neg (by omega), if_neg (by omega)] at h ⊢
  rw [show (Lib.uvarint 3 ++ t).drop 1 = t by rw [← hl1, List.drop_left]] at h ⊢
  cases hw : walkV 3 t (-1) 0 zeroR with
  | error e =>
    rw [hw] at h
    simp only at h
    rcases walk_codes _ _ _ _ _ _ _ (Nat.le_refl _) hw with e | e <;> omega
  | ok p =>
    obtain ⟨r, n⟩ := p
    rw [hw] at h
    simp only at h ⊢
    by_cases hn : n = 5
    · subst hn
      rw [if_neg (by simp)] at h ⊢
      by_cases hf : FitsR r
      · rw [if_pos hf]
        obtain ⟨fs, i1, i2, i3, i4, -⟩ := walk3_sound _ _ _ _ _ _ _ (Nat.le_refl _) hw
        rw [rising5 i1 i2 (by omega)] at i4
        show Lib.uvarint 3 ++ encFs r [1, 2, 3, 4, 5] = _
        rw [← i4]
      · rw [if_neg hf] at h
        simp at h
    · rw [if_pos (by omega)] at h
      simp at h

/-- What stands behind the version, read. -/
theorem decR_at (v : Nat) (h1 : 1 ≤ v) (h3 : v ≤ 3) (X : List UInt8) : decR (Lib.uvarint v ++ X) = match walkV v X (-1) 0 zeroR with
    | .error e => (zeroR, e)
    | .ok (r, found) => if found ≠ v + 2 then (zeroR, 7) else if FitsR r then (r, 0) else (zeroR, 1) := by
  have hp := Lib.uvarint_pos v
  have hd := dec62_uvarint v X (by omega)
  unfold decR
  rw [if_neg (ne_nil_of (by rw [List.length_append]; omega)), hd]
  simp only
  rw [if_neg (by omega), if_neg (by omega), List.drop_left]

/-- Something behind it, in the newest version. -/
theorem decR_more {r : Rec} (hr : FitsR r) {t : List UInt8} (ht : t ≠ []) : (decR (encR 3 r ++ t)).2 ≠ 0 := by
  obtain ⟨a, b, -⟩ := fields_ok (v := 3) (by decide) (by decide)
  have hw : walkV 3 (encFs r (fieldsV 3) ++ t) (-1) 0 zeroR = walkV 3 t 5 5 ((fieldsV 3).foldl (setF r) zeroR) := walk_fs hr t (fieldsV 3) (-1) 0 zeroR a b
  have he : ∃ e : Int, walkV 3 t 5 5 ((fieldsV 3).foldl (setF r) zeroR) = .error e ∧ e ≠ 0 := by
    rw [walkV, dif_neg ht]
    by_cases hk : (dec62 t).2 = 0 ∨ ((dec62 t).1 : Int) ≤ 5
    · rw [dif_pos hk]
      exact ⟨3, rfl, by decide⟩
    · rw [dif_neg hk, if_neg (by unfold hasV; omega), if_pos (.inr rfl)]
      exact ⟨7, rfl, by decide⟩
  obtain ⟨e, he, h0⟩ := he
  have hE : encR 3 r ++ t = Lib.uvarint 3 ++ (encFs r (fieldsV 3) ++ t) := List.append_assoc ..
  rw [hE, decR_at 3 (by decide) (by decide), hw, he]
  exact h0

/-- A strange field. -/
theorem decR_strange {v : Int} (h1 : 1 ≤ v) (h3 : v ≤ 3) {r : Rec} (hr : FitsR r) (f : Nat) (hf0 : 16 ≤ f) (hf1 : f < 128) (d : List UInt8) (hd : d.length < 128) :
    decR (encR v r ++ (Lib.uvarint f ++ (Lib.uvarint d.length ++ d))) = if v = 3 then (zeroR, 7) else (upgR v r, 0) := by
  obtain ⟨a, b, n⟩ := fields_ok h1 h3
  have hw := walk_fs hr (Lib.uvarint f ++ (Lib.uvarint d.length ++ d)) (fieldsV v) (-1) 0 zeroR a b
  rw [fields_set h1 h3, n] at hw
  have hlast : lastOf (-1) (fieldsV v) ≤ 5 := by
    have hv : v = 1 ∨ v = 2 ∨ v = 3 := by omega
    rcases hv with rfl | rfl | rfl <;> decide
  have hp := Lib.uvarint_pos f
  have hp2 := Lib.uvarint_pos d.length
  have d1 := dec62_uvarint f (Lib.uvarint d.length ++ d) (by omega)
  have d2 := dec62_uvarint d.length d (by omega)
  have hE : encR v r ++ (Lib.uvarint f ++ (Lib.uvarint d.length ++ d)) = Lib.uvarint v.toNat ++ (encFs r (fieldsV v) ++ (Lib.uvarint f ++ (Lib.uvarint d.length ++ d))) := List.append_assoc ..
  rw [hE, decR_at v.toNat (by omega) (by omega), hw, walkV, dif_neg (ne_nil_of (by rw [List.length_append]; omega)), dif_neg (by rw [d1]; simp only; omega), d1]
  simp only
  rw [if_neg (by unfold hasV; omega)]
  by_cases hv : v = 3
  · subst hv
    rw [if_pos (.inr rfl), if_pos rfl]
  · rw [if_neg (by omega), if_neg hv, List.drop_left, d2]
    simp only
    rw [if_neg (by rw [List.length_append, List.length_append]; omega), show (Lib.uvarint f ++ (Lib.uvarint d.length ++ d)).drop ((Lib.uvarint f).length + (Lib.uvarint d.length).length + d.length) = [] from List.drop_of_length_le (by rw [List.length_append, List.length_append]; omega), walk_nil]
    simp only
    rw [if_neg (by omega), if_pos (upg_fits hr)]

theorem encR_upg {v : Int} (h1 : 1 ≤ v) (h3 : v ≤ 3) (r : Rec) : encR v (upgR v r) = encR v r := by
  have hv : v = 1 ∨ v = 2 ∨ v = 3 := by omega
  rcases hv with rfl | rfl | rfl <;> rfl

theorem upg_upg (v : Int) (r : Rec) : upgR v (upgR v r) = upgR v r := by
  unfold upgR
  simp only
  by_cases h1 : v < 2 <;> by_cases h2 : v < 3 <;> simp [h1, h2]

theorem upg_three (r : Rec) : upgR 3 r = r := rfl

/-- Two records have two texts just if their upgrades are two. -/
theorem encR_inj {v : Int} (h1 : 1 ≤ v) (h3 : v ≤ 3) {r s : Rec} (hr : FitsR r) (hs : FitsR s) : encR v r = encR v s ↔ upgR v r = upgR v s := by
  constructor
  · intro h
    have e1 := decR_enc h1 h3 hr
    rw [h, decR_enc h1 h3 hs] at e1
    injection e1 with e1
    exact e1.symm
  · intro h
    rw [← encR_upg h1 h3 r, h, encR_upg h1 h3 s]

theorem decR_nil : decR [] = (zeroR, 2) := by simp [decR]

end Go.Proofs.YtddhcohjmgdajaaDoor

/- Blocks of records as bytes, over plain lists, and what follows. -/
namespace Go.Proofs.YtddhcohjmgdajaaDoor

/-- The Seq of the last record that has a process; 0: there is none. -/
def lastSeq (l : List Rec) (p : Int) : Int := l.foldl (fun a r => if r.proc = p then r.seq else a) 0

theorem lastSeq_snoc (l : List Rec) (r : Rec) (p : Int) : lastSeq (l ++ [r]) p = if r.proc = p then r.seq else lastSeq l p := by
  unfold lastSeq
  rw [List.foldl_append]
  rfl

theorem lastSeq_nil (p : Int) : lastSeq [] p = 0 := rfl

theorem lastSeq_bd {l : List Rec} (p : Int) : (∀ r ∈ l, FitsR r) → 0 ≤ lastSeq l p ∧ lastSeq l p < 4611686018427387904 := by
  unfold lastSeq
  suffices h : ∀ (l : List Rec) (a : Int), (∀ r ∈ l, FitsR r) → 0 ≤ a → a < 4611686018427387904 → 0 ≤ l.foldl (fun a r => if r.proc = p then r.seq else a) a ∧ l.foldl (fun a r => if r.proc = p then r.seq else a) a < 4611686018427387904 by
    exact fun hl => h l 0 hl (by decide) (by decide)
  intro l
  induction l with
  | nil => intro a _ h0 h1; exact ⟨h0, h1⟩
  | cons r t ih =>
    intro a hf h0 h1
    rw [List.foldl_cons]
    have hr := hf r (by simp)
    obtain ⟨_, _, _, hs0, hs1, _⟩ := hr
    by_cases hp : r.proc = p
    · rw [if_pos hp]
      exact ih _ (fun s hs => hf s (by simp [hs])) hs0 hs1
    · rw [if_neg hp]
      exact ih _ (fun s hs => hf s (by simp [hs])) h0 h1

/-- A record behind others, as bytes. -/
def encOne (pre : List Rec) (r : Rec) : List UInt8 :=
  Lib.uvarint r.proc.toNat ++ (Lib.uvarint (Lib.zigzag (r.seq - lastSeq pre r.proc)) ++ (putOpL r.op ++ Lib.uvarint (Lib.zigzag r.resp)))

/-- Records behind others, as bytes. -/
def encRs (pre : List Rec) : List Rec → List UInt8
  | [] => []
  | r :: t => encOne pre r ++ encRs (pre ++ [r]) t

/-- A block's bytes. -/
def encB (l : List Rec) : List UInt8 := Lib.uvarint (l.headD zeroR).idx.toNat ++ (Lib.uvarint l.length ++ encRs [] l)

/-- Is each Index one more than the one ahead? -/
def chainR : Int → List Rec → Prop
  | _, [] => True
  | i, r :: t => r.idx = i ∧ chainR (i + 1) t

instance chainR_dec : ∀ (i : Int) (l : List Rec), Decidable (chainR i l)
  | _, [] => .isTrue trivial
  | i, r :: t => by
    unfold chainR
    exact @instDecidableAnd _ _ _ (chainR_dec (i + 1) t)

/-- May records stand in a block? -/
def FitsB (l : List Rec) : Prop := 1 ≤ l.length ∧ l.length ≤ 256 ∧ (∀ r ∈ l, FitsR r) ∧ chainR (l.headD zeroR).idx l

instance (l : List Rec) : Decidable (FitsB l) := by unfold FitsB; infer_instance

theorem encRs_app : ∀ (a b pre : List Rec), encRs pre (a ++ b) = encRs pre a ++ encRs (pre ++ a) b
  | [], b, pre => by simp [encRs]
  | r :: t, b, pre => by
    have e : pre ++ [r] ++ t = pre ++ r :: t := by simp
    rw [List.cons_append, encRs, encRs_app t b, e, encRs]
    exact (List.append_assoc _ _ _).symm

theorem encRs_snoc (l : List Rec) (k : Nat) (hk : k < l.length) : encRs [] (l.take (k + 1)) = encRs [] (l.take k) ++ encOne (l.take k) (l.getD k zeroR) := by
  have e : l.take (k + 1) = l.take k ++ [l.getD k zeroR] := by
    rw [List.take_add_one]
    simp [List.getD, hk]
  rw [e, encRs_app]
  simp [encRs]

/-- The record that bytes begin with, behind others, and how many bytes it has. -/
def oneL (pre : List Rec) (b : List UInt8) : Rec × Nat :=
  let i := (dec62 b).2
  let j := (dec64 (b.drop i)).2
  let k := (getOpL (b.drop (i + j))).2
  let m := (dec64 (b.drop (i + j + k))).2
  if i = 0 ∨ j = 0 ∨ k = 0 ∨ m = 0 then (zeroR, 0)
  else (⟨0, (dec62 b).1, IntKind.i64.wrap (lastSeq pre (dec62 b).1 + zag (dec64 (b.drop i)).1), (getOpL (b.drop (i + j))).1, zag (dec64 (b.drop (i + j + k))).1⟩, i + j + k + m)

theorem wrap_id {n : Int} (h : I64 n) : IntKind.i64.wrap n = n := by
  obtain ⟨h0, h1⟩ := h
  rw [IntKind.wrap_i64]
  omega

theorem diff_i64 {l : List Rec} (hl : ∀ r ∈ l, FitsR r) {r : Rec} (hr : FitsR r) : I64 (r.seq - lastSeq l r.proc) := by
  obtain ⟨h0, h1⟩ := lastSeq_bd r.proc hl
  obtain ⟨_, _, _, hs0, hs1, _⟩ := hr
  exact ⟨by omega, by omega⟩

theorem one_enc {pre : List Rec} (hl : ∀ r ∈ pre, FitsR r) {r : Rec} (hr : FitsR r) (t : List UInt8) : oneL pre (encOne pre r ++ t) = ({ r with idx := 0 }, (encOne pre r).length) := by
  have hd := diff_i64 hl hr
  have hresp := fitsR_resp hr
  obtain ⟨ho, _, _, hs0, hs1, hp0, hp1, _⟩ := id hr
  have E : encOne pre r ++ t = Lib.uvarint r.proc.toNat ++ (Lib.uvarint (Lib.zigzag (r.seq - lastSeq pre r.proc)) ++ (putOpL r.op ++ (Lib.uvarint (Lib.zigzag r.resp) ++ t))) := by
    unfold encOne
    simp only [List.append_assoc]
  have d1 := dec62_uvarint r.proc.toNat (Lib.uvarint (Lib.zigzag (r.seq - lastSeq pre r.proc)) ++ (putOpL r.op ++ (Lib.uvarint (Lib.zigzag r.resp) ++ t))) (by omega)
  rw [← E] at d1
  have e1 : (encOne pre r ++ t).drop (Lib.uvarint r.proc.toNat).length = Lib.uvarint (Lib.zigzag (r.seq - lastSeq pre r.proc)) ++ (putOpL r.op ++ (Lib.uvarint (Lib.zigzag r.resp) ++ t)) := by rw [E, List.drop_left]
  have d2 := dec64_uvarint (Lib.zigzag (r.seq - lastSeq pre r.proc)) (putOpL r.op ++ (Lib.uvarint (Lib.zigzag r.resp) ++ t)) (zig_lt hd)
  have e2 : (encOne pre r ++ t).drop ((Lib.uvarint r.proc.toNat).length + (Lib.uvarint (Lib.zigzag (r.seq - lastSeq pre r.proc))).length) = putOpL r.op ++ (Lib.uvarint (Lib.zigzag r.resp) ++ t) := by rw [← List.drop_drop, e1, List.drop_left]
  have d3 := getOp_put r.op ho (Lib.uvarint (Lib.zigzag r.resp) ++ t)
  have e3 : (encOne pre r ++ t).drop ((Lib.uvarint r.proc.toNat).length + (Lib.uvarint (Lib.zigzag (r.seq - lastSeq pre r.proc))).length + (putOpL r.op).length) = Lib.uvarint (Lib.zigzag r.resp) ++ t := by rw [← List.drop_drop, e2, List.drop_left]
  have d4 := dec64_uvarint (Lib.zigzag r.resp) t (zig_lt hresp)
  have n1 := uv_ne r.proc.toNat
  have n2 := uv_ne (Lib.zigzag (r.seq - lastSeq pre r.proc))
  have n4 := uv_ne (Lib.zigzag r.resp)
  have n3 : (putOpL r.op).length ≠ 0 := by
    unfold putOpL
    have := uv_ne r.op.code.toNat
    rw [List.length_append]
    omega
  unfold oneL
  simp only [d1, e1, d2, e2, d3, e3, d4]
  rw [if_neg (by rintro (h | h | h | h); exact n1 h; exact n2 h; exact n3 h; exact n4 h)]
  have hpn : ((r.proc.toNat : Nat) : Int) = r.proc := by omega
  rw [hpn, zag_zigzag _ hd.1 hd.2, zag_zigzag _ hresp.1 hresp.2]
  have hw : lastSeq pre r.proc + (r.seq - lastSeq pre r.proc) = r.seq := by omega
  rw [hw, wrap_id ⟨by omega, by omega⟩]
  congr 1
  unfold encOne
  simp only [List.length_append]
  omega

theorem uv_inj62 {a b : Nat} (ha : a < 4611686018427387904) (hb : b < 4611686018427387904) {x y : List UInt8} (h : Lib.uvarint a ++ x = Lib.uvarint b ++ y) : a = b ∧ x = y := by
  have d1 := dec62_uvarint a x ha
  have d2 := dec62_uvarint b y hb
  rw [h, d2] at d1
  have e := (Prod.mk.injEq ..).mp d1
  have hab : a = b := e.1.symm
  subst hab
  exact ⟨rfl, List.append_cancel_left h⟩

/-- Of two lists neither's bytes begin the other's. -/
theorem encRs_inj : ∀ (l l' pre : List Rec) (i : Int) (t : List UInt8), l.length = l'.length → chainR i l → chainR i l' → (∀ r ∈ pre, FitsR r) → (∀ r ∈ l, FitsR r) → (∀ r ∈ l', FitsR r) → encRs pre l' = encRs pre l ++ t → l' = l ∧ t = []
  | [], [], pre, i, t, _, _, _, _, _, _, h => ⟨rfl, by simpa [encRs] using h.symm⟩
  | r :: u, r' :: u', pre, i, t, hlen, hc, hc', hp, hf, hf', h => by
    have hr := hf r (by simp)
    have hr' := hf' r' (by simp)
    have h1 := one_enc hp hr (encRs (pre ++ [r]) u ++ t)
    have h2 := one_enc hp hr' (encRs (pre ++ [r']) u')
    have hh : encOne pre r' ++ encRs (pre ++ [r']) u' = encOne pre r ++ (encRs (pre ++ [r]) u ++ t) := by
      rw [encRs, encRs] at h
      rw [h, List.append_assoc]
    rw [hh, h1] at h2
    have hs := ((Prod.mk.injEq ..).mp h2).1
    have hri : r.idx = r'.idx := by rw [hc.1, hc'.1]
    have hrr : r' = r := by
      obtain ⟨i1, p1, s1, o1, e1⟩ := r
      obtain ⟨i2, p2, s2, o2, e2⟩ := r'
      simp only [Rec.mk.injEq, true_and] at hs hri ⊢
      obtain ⟨h1, h2, h3, h4⟩ := hs
      exact ⟨hri.symm, h1.symm, h2.symm, h3.symm, h4.symm⟩
    subst hrr
    have hrest : encRs (pre ++ [r']) u' = encRs (pre ++ [r']) u ++ t := List.append_cancel_left hh
    obtain ⟨q1, q2⟩ := encRs_inj u u' (pre ++ [r']) (i + 1) t (by simpa using hlen) hc.2 hc'.2 (fun s hs => by
      rcases List.mem_append.1 hs with h | h
      · exact hp s h
      · simp at h; rw [h]; exact hr) (fun s hs => hf s (by simp [hs])) (fun s hs => hf' s (by simp [hs])) hrest
    exact ⟨by rw [q1], q2⟩

theorem encB_inj {l l' : List Rec} (hl : FitsB l) (hl' : FitsB l') {t : List UInt8} (h : encB l' = encB l ++ t) : l' = l ∧ t = [] := by
  obtain ⟨n1, n2, hf, hc⟩ := hl
  obtain ⟨n1', n2', hf', hc'⟩ := hl'
  unfold encB at h
  simp only [List.append_assoc] at h
  have hm : ∀ l : List Rec, 1 ≤ l.length → l.headD zeroR ∈ l := fun l h => by
    match l, h with
    | r :: u, _ => simp
  obtain ⟨_, i0, i1, _⟩ := hf _ (hm l n1)
  obtain ⟨_, j0, j1, _⟩ := hf' _ (hm l' n1')
  obtain ⟨k1, k2⟩ := uv_inj62 (by omega) (by omega) h
  obtain ⟨k3, k4⟩ := uv_inj62 (by omega) (by omega) k2
  have hidx : (l.headD zeroR).idx = (l'.headD zeroR).idx := by omega
  rw [← hidx] at hc'
  exact encRs_inj l l' [] _ t (by omega) hc hc' (fun r hr => by simp at hr) hf hf' k4

theorem encB_apart {l l' : List Rec} (hl : FitsB l) (hl' : FitsB l') : encB l = encB l' ↔ l = l' := by
  constructor
  · intro h
    exact (encB_inj hl' hl (t := []) (by rw [List.append_nil]; exact h)).1
  · intro h
    rw [h]

theorem encB_cut {l l' : List Rec} (hl : FitsB l) (hl' : FitsB l') {n : Nat} (hn : n < (encB l).length) : encB l' ≠ (encB l).take n := by
  intro h
  have h2 : encB l = encB l' ++ (encB l).drop n := by rw [h, List.take_append_drop]
  obtain ⟨_, h3⟩ := encB_inj hl' hl h2
  have h4 := congrArg List.length h3
  rw [List.length_drop] at h4
  simp at h4
  omega

theorem encB_more {l l' : List Rec} (hl : FitsB l) (hl' : FitsB l') {t : List UInt8} (ht : t ≠ []) : encB l' ≠ encB l ++ t := fun h => ht (encB_inj hl hl' h).2

theorem encB_ne {l : List Rec} : encB l ≠ [] := by
  unfold encB
  intro h
  have := congrArg List.length h
  have h2 := uv_ne (l.headD zeroR).idx.toNat
  simp only [List.length_append, List.length_nil] at this
  omega

/-- What bytes are: the records of which they are the bytes, or none and ErrForm. -/
def DecB (b : List UInt8) (l : List Rec) (e : Int) : Prop := (e = 0 ∧ FitsB l ∧ encB l = b) ∨ (e = 3 ∧ l = [] ∧ ∀ l', FitsB l' → encB l' ≠ b)

theorem DecB.unique {b : List UInt8} {l l' : List Rec} {e e' : Int} (h : DecB b l e) (h' : DecB b l' e') : l = l' ∧ e = e' := by
  rcases h with ⟨h1, h2, h3⟩ | ⟨h1, h2, h3⟩
  · rcases h' with ⟨k1, k2, k3⟩ | ⟨k1, k2, k3⟩
    · exact ⟨(encB_apart h2 k2).1 (h3.trans k3.symm), by omega⟩
    · exact absurd h3 (k3 l h2)
  · rcases h' with ⟨k1, k2, k3⟩ | ⟨k1, k2, k3⟩
    · exact absurd k3 (h3 l' k2)
    · exact ⟨by rw [h2, k2], by omega⟩

end Go.Proofs.YtddhcohjmgdajaaDoor

/- Contracts of own, putGroups, Put, PutSigned: what the answer holds, that it is the call's own, and that nothing older has turned. -/
namespace Go.Proofs.YtddhcohjmgdajaaDoor
open Go.RowKit

set_option maxRecDepth 100000 in
set_option maxHeartbeats 400000 in
theorem own_any (v : Value) (l : List UInt8) (w : World) (hr : Rd w v l) (hlim : l.length ≤ 70368744177664) :
    Calls Tryd.prog 60 #[v] w fun e w' => ∃ v', e = .returned v' ∧ Own w' w.heap.size v' l ∧ Below w.heap.size w w' := by
  obtain ⟨i0, hi, hz0, hz1, hz2⟩ := info_parts info8
  have HR := hide hr
  obtain ⟨ao, cap, rfl, hlc, hcm, hn0, hao⟩ := hr
  have HA := hide hao
  have HN := hide hn0
  clear hao hn0
  go_enter Tryd.func60, Tryd.ntmps60
  go_wp2_with (at_make; refine wpList_make_own _ rfl _ _ 26 rfl w.heap.size 5 i0 (.int .u8 0) 1 Tryd.underlying26 hi hz0 hz1 _ _ _ (l.length + 10) rfl rfl (by omega) (by rw [hz2]; omega) (by unfold maxLen; omega) (Nat.le_refl _) ?_)
  intro w1 hown hgrow
  have hb1 : Below w.heap.size w w1 := (Below.refl _ _).grown hgrow (Nat.le_refl _) (fun k hk => by cases hk)
  obtain ⟨ao', cap', hv', _, _, _, hao'⟩ := HR.out.below hb1 (Nat.le_refl _)
  simp only [Value.slice.injEq] at hv'
  obtain ⟨rfl, _, rfl⟩ := hv'
  have HA1 := hide hao'
  have HB := hide hb1
  have HG := hide hgrow
  clear hao' hb1 hgrow HA
  go_wp2_with (at_builtin; refine wpList_append_fits_any _ rfl _ _ 26 rfl w.heap.size 5 i0 1 Tryd.underlying26 hi hz1 w.heap.size 0 (l.length + 10) [] rfl hown ao l.length cap (Lib.byteCells l) rfl (by rw [byteCells_length, Nat.mul_one]) (fun e => ⟨by have := HN.out e; omega, HN.out e⟩) (Rd.cells HA1.out) (byteCells_one l) (by omega) ?_)
  intro w2 hown2 hgrow2
  have hb2 : Below w.heap.size w w2 := HB.out.grown hgrow2 (by have := HB.out.size; omega) (fun k hk => by simp at hk; omega)
  have HB2 := hide hb2
  have HO := hide hown2
  clear hb2 hgrow2 hown2 hown
  go_wp2
  go_ret
  exact ⟨_, rfl, Own.mk' HO.out (by simp) (by simp), HB2.out⟩

theorem or128 (y : Nat) : bits .or .u8 ((y : Int) % 256) 128 = (y : Int) % 128 + 128 := by
  rw [Lib.u8_or128_any _ (by omega) (by omega)]
  omega

theorem Own.snoc {w : World} {B : Nat} {v : Value} (l pre : List UInt8) (a : Nat) (ha : a < 256) {n : Nat} {x : Int} (h : w.ownsRow B 5 1 v n (Lib.byteCells (l ++ pre) ++ [Value.int .u8 x])) (hn : n = l.length + pre.length + 1) (hx : x = (a : Int)) : Own w B v (l ++ (pre ++ [a.toUInt8])) := by
  subst hx
  refine Own.mk' h (by rw [hn]; simp; omega) ?_
  rw [← List.append_assoc, Lib.byteCells_snoc _ ha]

set_option maxRecDepth 100000 in
set_option maxHeartbeats 1000000 in
theorem putGroups_any (v : Value) (l : List UInt8) (u : Nat) (w : World) (hr : Rd w v l) (hlim : l.length ≤ 70368744177664) (hu : u < 18446744073709551616) :
    Calls Tryd.prog 61 #[v, .int .u64 (u : Int)] w fun e w' => ∃ v', e = .returned v' ∧ Own w' w.heap.size v' (l ++ Lib.uvarint u) ∧ Below w.heap.size w w' := by
  obtain ⟨i0, hi, hz0, hz1, hz2⟩ := info_parts info8
  have hlen := Lib.uvarint_length64 hu
  have HC := hide (own_any v l w hr hlim)
  have HU := hide hu
  clear hr hu
  go_enter Tryd.func61, Tryd.ntmps61
  go_wp2_with fail
  refine HC.out.mono ?_
  rintro e w0 ⟨v0, rfl, hown0, hb0⟩
  have HO0 := hide hown0
  have HB0 := hide hb0
  clear hown0 hb0 HC
  go_wp2
  go_loopw [1, 5] (fun vu vb wr => ∃ (y : Nat) (pre : List UInt8), vu = .int .u64 (y : Int) ∧ Hid (y ≤ u ∧ Lib.uvarint u = pre ++ Lib.uvarint y) ∧ Hid (Own wr w.heap.size vb (l ++ pre)) ∧ Hid (Below w.heap.size w wr))
    (fun vu _ _ => (intOf vu).toNat)
  case atStart => exact ⟨u, [], rfl, ⟨Nat.le_refl _, rfl⟩, by rw [List.append_nil]; exact HO0.out, HB0.out⟩
  case round =>
    obtain ⟨y, pre, rfl, hys, hown1, hnx⟩ := hrel
    have hpl : pre.length + (Lib.uvarint y).length ≤ 10 := by
      have h2 := congrArg List.length hys.out.2
      rw [List.length_append] at h2
      omega
    have hyp := Lib.uvarint_pos y
    have hsz := hnx.out.size
    by_cases h128 : 128 ≤ y
    · have hor := or128 y
      go_wp2_with (at_builtin; refine wpList_append_own _ rfl _ _ 26 rfl w.heap.size 5 i0 (.int .u8 0) 1 1 Tryd.underlying26 hi hz0 hz1 hz2 rfl (by decide) _ _ _ rfl (World.ownsRow.alloc hown1.out _) ⟨wr.heap.size, 0, none⟩ 1 1 [Value.int .u8 ((y % 128 + 128 : Nat) : Int)] rfl rfl ?c1 ?c2 ?c3 ?c4 ?c5 ?_)
      case c1 =>
        intro j u hj
        match j, hj with
        | 0, hj => simp at hj; subst hj; simp [Addr.add]
      case c2 => intro u hu; simp at hu; subst hu; rfl
      case c3 => unfold maxLen; simp; omega
      case c4 => simp; omega
      case c5 => simp; omega
      intro v' w1 hown' hgrow _
      have hnx1 : Below w.heap.size w w1 := (hnx.out.alloc (by omega) _).grown hgrow (by simp; omega) (fun k hk => (World.ownsRow.lt hown1.out k hk).1)
      have HO := hide (Own.snoc l pre (y % 128 + 128) (by omega) hown' (by simp) (by omega))
      have HB := hide hnx1
      clear hown' hnx1 hgrow
      go_wp2
      go_roundw
      case rel => exact ⟨y / 128, pre ++ [(y % 128 + 128).toUInt8], by go_num, ⟨by have := hys.out.1; omega, by rw [hys.out.2, Lib.uvarint_big h128]; simp⟩, HO, HB⟩
      case measure => simp [intOf]; omega
    · have hsm : Lib.uvarint y = [y.toUInt8] := Lib.uvarint_small (by omega)
      have HS := hide hsm
      clear hsm
      go_wp2_with (at_builtin; refine wpList_append_own _ rfl _ _ 26 rfl w.heap.size 5 i0 (.int .u8 0) 1 1 Tryd.underlying26 hi hz0 hz1 hz2 rfl (by decide) _ _ _ rfl (World.ownsRow.alloc hown1.out _) ⟨wr.heap.size, 0, none⟩ 1 1 [Value.int .u8 (y : Int)] rfl rfl ?c1 ?c2 ?c3 ?c4 ?c5 ?_)
      case c1 =>
        intro j u hj
        match j, hj with
        | 0, hj => simp at hj; subst hj; simp [Addr.add]
      case c2 => intro u hu; simp at hu; subst hu; rfl
      case c3 => unfold maxLen; simp; omega
      case c4 => simp; omega
      case c5 => simp; omega
      intro v' w1 hown' hgrow _
      have hnx1 : Below w.heap.size w w1 := (hnx.out.alloc (by omega) _).grown hgrow (by simp; omega) (fun k hk => (World.ownsRow.lt hown1.out k hk).1)
      have HO := hide (Own.snoc l pre y (by omega) hown' (by simp) rfl)
      have HB := hide hnx1
      clear hown' hnx1 hgrow
      go_wp2
      go_ret
      refine ⟨v', rfl, ?_, HB.out⟩
      rw [hys.out.2, HS.out]
      exact HO.out

/-- What Put answers: the bytes, and behind them the groups, if the number may be. -/
def putOf (l : List UInt8) (n : Int) : List UInt8 := if 0 ≤ n ∧ n < 4611686018427387904 then l ++ Lib.uvarint n.toNat else l

set_option maxRecDepth 100000 in
set_option maxHeartbeats 400000 in
theorem put_any (v : Value) (l : List UInt8) (n : Int) (w : World) (hr : Rd w v l) (hlim : l.length ≤ 70368744177664) :
    Calls Tryd.prog 42 #[v, .int .i64 n] w fun e w' => ∃ v', e = .returned v' ∧ Own w' w.heap.size v' (putOf l n) ∧ Below w.heap.size w w' := by
  by_cases h : 0 ≤ n ∧ n < 4611686018427387904
  · obtain ⟨h0, h1⟩ := h
    have HE : Hid (putOf l n = l ++ Lib.uvarint n.toNat) := if_pos ⟨h0, h1⟩
    have HC := hide (putGroups_any v l n.toNat w hr hlim (by omega))
    have en : ((n.toNat : Nat) : Int) = n := Int.toNat_of_nonneg h0
    rw [en] at HC
    clear en hr
    go_enter Tryd.func42, Tryd.ntmps42
    go_wp2_with fail
    refine HC.out.mono ?_
    rintro e w' ⟨v', rfl, ho, hb⟩
    have HO := hide ho
    have HB := hide hb
    clear ho hb HC
    go_wp2
    go_ret
    exact ⟨v', rfl, by rw [HE.out]; exact HO.out, HB.out⟩
  · have HE : Hid (putOf l n = l) := if_neg h
    have HC := hide (own_any v l w hr hlim)
    clear hr
    by_cases h0 : n < 0
    all_goals
      go_enter Tryd.func42, Tryd.ntmps42
      go_wp2_with fail
      refine HC.out.mono ?_
      rintro e w' ⟨v', rfl, ho, hb⟩
      have HO := hide ho
      have HB := hide hb
      clear ho hb HC
      go_wp2
      go_ret
      exact ⟨v', rfl, by rw [HE.out]; exact HO.out, HB.out⟩

set_option maxRecDepth 100000 in
set_option maxHeartbeats 400000 in
theorem putSigned_any (v : Value) (l : List UInt8) (n : Int) (w : World) (hr : Rd w v l) (hlim : l.length ≤ 70368744177664) (h0 : -9223372036854775808 ≤ n) (h1 : n ≤ 9223372036854775807) :
    Calls Tryd.prog 97 #[v, .int .i64 n] w fun e w' => ∃ v', e = .returned v' ∧ Own w' w.heap.size v' (l ++ Lib.uvarint (Lib.zigzag n)) ∧ Below w.heap.size w w' := by
  have HC := hide (putGroups_any v l (Lib.zigzag n) w hr hlim (Lib.zigzag_lt h0 h1))
  have HZ := hide (zig_any n w h0 h1)
  generalize Lib.zigzag n = z at *
  clear hr h0 h1
  go_enter Tryd.func97, Tryd.ntmps97
  go_wp2_with fail
  refine HZ.out.mono ?_
  rintro e w' ⟨rfl, rfl⟩
  go_wp2_with fail
  refine HC.out.mono ?_
  rintro e w' ⟨v', rfl, ho, hb⟩
  have HO := hide ho
  have HB := hide hb
  clear ho hb HC HZ
  go_wp2
  go_ret
  exact ⟨v', rfl, HO.out, HB.out⟩

end Go.Proofs.YtddhcohjmgdajaaDoor

/- append onto bytes of the call's own, of any bytes that can be read: a law for the walk. -/
namespace Go.Proofs.YtddhcohjmgdajaaDoor
open Go.RowKit

theorem Own.nil (w : World) (B : Nat) : Own w B (.slice none 0 0) [] := World.ownsRow_nil w B 5 1

theorem run_append_rd (w : World) (ty : TypeId) (B : Nat) (v : Value) (l0 : List UInt8) (hown : Own w B v l0) (vx : Value) (l : List UInt8) (hr : Rd w vx l)
    (hlim : l0.length + l.length ≤ 70368744177664) (hbase : B ≤ w.heap.size) :
    ∃ v' w', (Builtin.append_ #[26, 26] ty #[v, vx]).run Tryd.prog w = .ok v' w' ∧ Own w' B v' (l0 ++ l) ∧ Below B w w' := by
  obtain ⟨i0, hi, hz0, hz1, hz2⟩ := info_parts info8
  obtain ⟨ao, cap, rfl, hlc, hcm, hn0, hao⟩ := hr
  cases ao with
  | none =>
    have hc := hn0 rfl
    subst hc
    have hl : l = [] := List.eq_nil_of_length_eq_zero (by omega)
    subst hl
    have hrun := run_append_owned_none (P := Tryd.prog) w B 26 ty 5 i0 1 Tryd.underlying26 hi v l0.length (Lib.byteCells l0) hown
    exact ⟨v, w, hrun, by rw [List.append_nil]; exact hown, Below.refl _ _⟩
  | some a =>
    obtain ⟨v', w', hrun, ho, hg, _⟩ := run_append_own (P := Tryd.prog) w B 26 ty 5 i0 (.int .u8 0) 1 1 Tryd.underlying26 hi hz0 hz1 hz2 rfl (by decide) v l0.length (Lib.byteCells l0) hown a l.length cap (Lib.byteCells l)
      (by rw [byteCells_length, Nat.mul_one]) (Rd.cells hao a rfl) (byteCells_one l) (by unfold maxLen; omega) (by omega) hbase
    refine ⟨v', w', hrun, Own.mk' ho (by simp) (by simp [Lib.byteCells]), ?_⟩
    exact (Below.refl _ _).grown hg hbase (fun k hk => (World.ownsRow.lt hown k hk).1)

theorem wp_append_rd {o : Oper} {a : Act} {K : Act → World → Prop} {Q : Exit → Act → World → Prop} (w : World) (s x : Operand)
    (ho : o.op = .call { callee := .builtin .append, args := #[s, x], argTypes := #[26, 26] })
    (B : Nat) (v : Value) (l0 : List UInt8) (hs : a.eval s = v) (hown : Own w B v l0) (vx : Value) (l : List UInt8) (hx : a.eval x = vx) (hr : Rd w vx l)
    (hlim : l0.length + l.length ≤ 70368744177664) (hbase : B ≤ w.heap.size)
    (h : ∀ v' w', Own w' B v' (l0 ++ l) → Below B w w' → K (a.put o.dst v') w') : o.wp Tryd.prog a w K Q := by
  obtain ⟨v', w', hrun, h2, h3⟩ := run_append_rd w o.type B v l0 hown vx l hr hlim hbase
  unfold Oper.wp execOp
  simp only [ho, resolve, invoke, builtin, Sem.run_bind, Sem.run_pure, Result.andThen_ok, List.map_toArray, List.map_cons, List.map_nil, hs, hx, hrun]
  exact h v' w' h2 h3

theorem wpList_append_rd (w : World) {ops : Array Oper} {rest : List Oper} {o : Oper} {a : Act} {Q : Exit → Act → World → Prop} (hgd : o.guard = none) (s x : Operand)
    (ho : o.op = .call { callee := .builtin .append, args := #[s, x], argTypes := #[26, 26] })
    (B : Nat) (v : Value) (l0 : List UInt8) (hs : a.eval s = v) (hown : Own w B v l0) (vx : Value) (l : List UInt8) (hx : a.eval x = vx) (hr : Rd w vx l)
    (hlim : l0.length + l.length ≤ 70368744177664) (hbase : B ≤ w.heap.size)
    (h : ∀ v' w', Own w' B v' (l0 ++ l) → Below B w w' → wpList Tryd.prog ops Q rest (a.put o.dst v') w') : wpList Tryd.prog ops Q (o :: rest) a w :=
  wpList_plain hgd fun _ hK => wp_append_rd w s x ho B v l0 hs hown vx l hx hr hlim hbase fun v' w' h2 h3 => hK _ _ (h v' w' h2 h3)

/-- The same as one step of a region that draws its order. -/
theorem step_append_rd {ops : Array Oper} {o : Oper} {a : Act} {w : World} {K : Act → World → Prop} {Q : Exit → Act → World → Prop} {E : Prop}
    (hg : o.guard = none) (s x : Operand) (hop : o.op = Op.call { callee := Callee.builtin Builtin.append, args := #[s, x], argTypes := #[26, 26] })
    (B : Nat) (v : Value) (l0 : List UInt8) (hs : a.eval s = v) (hown : Own w B v l0) (vx : Value) (l : List UInt8) (hx : a.eval x = vx) (hr : Rd w vx l)
    (hlim : l0.length + l.length ≤ 70368744177664) (hbase : B ≤ w.heap.size)
    (hK : ∀ v' w', Own w' B v' (l0 ++ l) → Below B w w' → K (a.put o.dst v') w') :
    if Region.wanted o (yielded ops a.tmps) = true then Oper.wp Tryd.prog o a w K Q else E := by
  have hw : Region.wanted o (yielded ops a.tmps) = true := by simp [Region.wanted, hg]
  rw [if_pos hw]
  exact wp_append_rd w s x hop B v l0 hs hown vx l hx hr hlim hbase hK

/-- The same where the operation is guarded, and wanted. -/
theorem wpList_append_rdw (w : World) {ops : Array Oper} {rest : List Oper} {o : Oper} {a : Act} {Q : Exit → Act → World → Prop} (hw : Region.wanted o (yielded ops a.tmps) = true) (s x : Operand)
    (ho : o.op = .call { callee := .builtin .append, args := #[s, x], argTypes := #[26, 26] })
    (B : Nat) (v : Value) (l0 : List UInt8) (hs : a.eval s = v) (hown : Own w B v l0) (vx : Value) (l : List UInt8) (hx : a.eval x = vx) (hr : Rd w vx l)
    (hlim : l0.length + l.length ≤ 70368744177664) (hbase : B ≤ w.heap.size)
    (h : ∀ v' w', Own w' B v' (l0 ++ l) → Below B w w' → wpList Tryd.prog ops Q rest (a.put o.dst v') w') : wpList Tryd.prog ops Q (o :: rest) a w :=
  wpList_step fun _ hK => by
    rw [if_pos hw]
    exact wp_append_rd w s x ho B v l0 hs hown vx l hx hr hlim hbase fun v' w' h2 h3 => hK _ _ (h v' w' h2 h3)

end Go.Proofs.YtddhcohjmgdajaaDoor

/- Contracts of countGroups, getGroups, Get, GetSigned. -/
namespace Go.Proofs.YtddhcohjmgdajaaDoor
open Go.RowKit

/-- c is how many groups the bytes begin with; 0: the last one lacks, or is beyond ten. -/
def Cnt (l : List UInt8) (c : Nat) : Prop :=
  (c = 0 ∧ ∀ j, j < 10 → j < l.length → 128 ≤ (l.getD j 0).toNat) ∨
  (1 ≤ c ∧ c ≤ 10 ∧ c ≤ l.length ∧ (∀ j, j + 1 < c → 128 ≤ (l.getD j 0).toNat) ∧ (l.getD (c - 1) 0).toNat < 128)

set_option maxRecDepth 100000 in
set_option maxHeartbeats 400000 in
theorem count_any (v : Value) (l : List UInt8) (w : World) (hr : Rd w v l) :
    Calls Tryd.prog 90 #[v] w fun e w' => ∃ c : Nat, e = .returned (.int .i64 (c : Int)) ∧ Cnt l c ∧ w' = w := by
  obtain ⟨ao, cap, rfl, hlc, hcm, hn0, hao⟩ := hr
  clear hn0
  have hml : (l.length : Int) ≤ 9223372036854775807 := by unfold maxLen at hcm; omega
  by_cases h10 : (l.length : Int) ≤ 10
  all_goals
    go_enter Tryd.func90, Tryd.ntmps90
    go_wp2
    go_loop [7] (fun i => ∃ k : Nat, i = .int .i64 k ∧ k ≤ 10 ∧ k ≤ l.length ∧ Hid (∀ j, j < k → 128 ≤ (l.getD j 0).toNat)) (fun i => 10 - (intOf i).toNat)
    case atStart => exact ⟨0, rfl, by omega, by omega, fun j hj => by omega⟩
    case round =>
      obtain ⟨k, rfl, hk10, hkl, hall⟩ := hrel
      by_cases hlt : k < 10 ∧ k < l.length
      · obtain ⟨hlt, hlt'⟩ := hlt
        rcases hao with hao | ⟨b, off, rfl, hc⟩
        · subst hao; simp at hlt'
        · have hck := hc k hlt'
          clear hc
          obtain ⟨y, hy⟩ : ∃ y, y = (l.getD k 0).toNat := ⟨_, rfl⟩
          rw [← hy] at hck
          have HY : Hid (y = (l.getD k 0).toNat) := hy
          clear hy
          by_cases hyb : (y : Int) < 128
          · go_wp2
            go_ret
            refine ⟨k + 1, ret_int (by omega), .inr ⟨by omega, by omega, by omega, fun j hj => hall.out j (by omega), ?_⟩, rfl⟩
            rw [Nat.add_sub_cancel, ← HY.out]
            omega
          · go_wp2
            go_round
            case rel =>
              refine ⟨k + 1, by go_num, by omega, by omega, fun j hj => ?_⟩
              by_cases e : j = k
              · rw [e, ← HY.out]; omega
              · exact hall.out j (by omega)
            case measure => simp [intOf]; omega
      · go_wp2
        go_ret
        exact ⟨0, rfl, .inl ⟨rfl, fun j h1 h2 => hall.out j (by omega)⟩, rfl⟩

theorem dec64_none {l : List UInt8} (h : Cnt l 0) : dec64 l = (0, 0) := by
  rcases h with ⟨_, h⟩ | h
  · unfold dec64
    rw [dec_miss 10 l h]
  · omega

theorem dec_cnt {l : List UInt8} {c : Nat} (h : Cnt l (c + 1)) : c < 10 ∧ c < l.length ∧ (l.getD c 0).toNat < 128 ∧
    dec 10 l = if 0 < c ∧ (l.getD c 0).toNat = 0 then none else some (val (l.take (c + 1)), c + 1) := by
  rcases h with h | ⟨h1, h2, h3, h4, h5⟩
  · omega
  · have h5' : (l.getD c 0).toNat < 128 := by simpa using h5
    exact ⟨by omega, by omega, h5', dec_hit c 10 l (by omega) (by omega) (fun j hj => h4 j (by omega)) h5'⟩

theorem val_take_lt (l : List UInt8) (k : Nat) (h : k ≤ l.length) : val (l.take k) < 128 ^ k := by
  have := val_lt (l.take k)
  rwa [List.length_take, Nat.min_eq_left h] at this

theorem dec64_ten {l : List UInt8} (h : Cnt l 10) (hy : (l.getD 9 0).toNat ≠ 1) : dec64 l = (0, 0) := by
  obtain ⟨h1, h2, h3, h4⟩ := dec_cnt h
  unfold dec64
  rw [h4]
  by_cases hz : (l.getD 9 0).toNat = 0
  · rw [if_pos ⟨by omega, hz⟩]
  · rw [if_neg (fun e => hz e.2)]
    have hv := val_take l 9 h2
    have hm : (l.getD 9 0).toNat % 128 = (l.getD 9 0).toNat := Nat.mod_eq_of_lt h3
    rw [hm] at hv
    have e9 : 128 ^ 9 = 9223372036854775808 := by decide
    rw [e9] at hv
    have : ¬ val (l.take (9 + 1)) < 18446744073709551616 := by omega
    simp only [this, if_false]

theorem dec64_last0 {l : List UInt8} {c : Nat} (h : Cnt l (c + 1)) (hc : 0 < c) (hy : (l.getD c 0).toNat = 0) : dec64 l = (0, 0) := by
  obtain ⟨h1, h2, h3, h4⟩ := dec_cnt h
  unfold dec64
  rw [h4, if_pos ⟨hc, hy⟩]

theorem dec64_good {l : List UInt8} {c : Nat} (h : Cnt l (c + 1)) (h10 : c = 9 → (l.getD c 0).toNat = 1) (h0 : 0 < c → (l.getD c 0).toNat ≠ 0) :
    dec64 l = (val (l.take (c + 1)), c + 1) ∧ val (l.take (c + 1)) < 18446744073709551616 := by
  obtain ⟨h1, h2, h3, h4⟩ := dec_cnt h
  have hlt : val (l.take (c + 1)) < 18446744073709551616 := by
    by_cases e : c = 9
    · subst e
      have hv := val_take l 9 h2
      have hv9 := val_take_lt l 9 (by omega)
      rw [h10 rfl] at hv
      have e9 : 128 ^ 9 = 9223372036854775808 := by decide
      rw [e9] at hv hv9
      omega
    · have hv := val_take_lt l (c + 1) (by omega)
      have hp : 128 ^ (c + 1) ≤ 128 ^ 9 := Nat.pow_le_pow_right (by decide) (by omega)
      have e9 : 128 ^ 9 = 9223372036854775808 := by decide
      omega
  refine ⟨?_, hlt⟩
  unfold dec64
  rw [h4, if_neg (fun e => h0 e.1 e.2)]
  simp only [hlt, if_true]

theorem or_low (k y x : Nat) (hk : k < 64) (hy : y < 2 ^ k) (hx : x * 2 ^ k < 18446744073709551616) :
    bits .or .u64 (y : Int) (IntKind.u64.wrap ((x : Int) * 2 ^ k)) = ((y + x * 2 ^ k : Nat) : Int) := by
  have e : ((x : Int) * 2 ^ k) = ((x * 2 ^ k : Nat) : Int) := by simp
  have hp : ((2 ^ k : Nat) : Int) = (2 : Int) ^ k := by simp
  have hk64 : (2 : Nat) ^ k ≤ 2 ^ 64 := Nat.pow_le_pow_right (by decide) (by omega)
  rw [e, wraps_u64 _ (by omega) (by omega), bits_join_low .u64 64 (by decide) wraps_u64 k (y : Int) ((x * 2 ^ k : Nat) : Int) (by omega) (by rw [← hp]; omega) (by omega) (by omega) (by rw [← hp]; simp) (by omega)]
  omega

theorem or_step (l : List UInt8) (k : Nat) (hk : k < l.length) (h10 : k < 10) (h9 : k = 9 → (l.getD k 0).toNat % 128 ≤ 1) :
    bits .or .u64 ((val (l.take k) : Nat) : Int) (IntKind.u64.wrap (((l.getD k 0).toNat : Int) % 128 * 2 ^ (7 * k))) = ((val (l.take (k + 1)) : Nat) : Int) := by
  have hv := val_take_lt l k (by omega)
  rw [val_take l k hk, ← pow7]
  rw [← pow7] at hv
  have e : (((l.getD k 0).toNat : Int) % 128) = (((l.getD k 0).toNat % 128 : Nat) : Int) := by omega
  rw [e]
  refine or_low (7 * k) _ _ (by omega) hv ?_
  by_cases hk9 : k = 9
  · have := h9 hk9
    subst hk9
    have e9 : 2 ^ (7 * 9) = 9223372036854775808 := by decide
    rw [e9]
    omega
  · have hp : 2 ^ (7 * k) ≤ 2 ^ 56 := Nat.pow_le_pow_right (by decide) (by omega)
    have hm : (l.getD k 0).toNat % 128 ≤ 127 := by omega
    have := Nat.mul_le_mul hm hp
    have e56 : 127 * 2 ^ 56 < 18446744073709551616 := by decide
    omega

set_option maxRecDepth 100000 in
set_option maxHeartbeats 400000 in
theorem groups_any (v : Value) (l : List UInt8) (w : World) (hr : Rd w v l) :
    Calls Tryd.prog 71 #[v] w fun e w' => e = .returned (.tuple #[.int .u64 ((dec64 l).1 : Nat), .int .i64 ((dec64 l).2 : Nat)]) ∧ w' = w := by
  have hcnt := count_any v l w hr
  obtain ⟨ao, cap, rfl, hlc, hcm, hn0, hao⟩ := hr
  clear hn0
  have HC := hide hcnt
  clear hcnt
  go_enter Tryd.func71, Tryd.ntmps71
  go_wp2_with fail
  refine HC.out.mono ?_
  rintro e w' ⟨c, rfl, hc, rfl⟩
  have hc : Hid (Cnt l c) := hc
  clear HC
  cases c with
  | zero =>
    have H : Hid (dec64 l = (0, 0)) := dec64_none hc.out
    go_wp2
    go_ret2
    exact ⟨by rw [H.out]; rfl, rfl⟩
  | succ c =>
    obtain ⟨hc10, hcl, hyl, hdec⟩ := dec_cnt hc.out
    clear hdec
    rcases hao with hao | ⟨b, off, rfl, hcell⟩
    · subst hao; simp at hcl
    have hck := hcell c hcl
    obtain ⟨y, hy⟩ : ∃ y, y = (l.getD c 0).toNat := ⟨_, rfl⟩
    rw [← hy] at hck hyl
    have HY : Hid (y = (l.getD c 0).toNat) := hy
    have HCELL := hide hcell
    clear hy hcell
    by_cases hbad : (c = 9 ∧ y ≠ 1) ∨ (0 < c ∧ y = 0)
    · have H : Hid (dec64 l = (0, 0)) := by
        rcases hbad with ⟨h9, hy1⟩ | ⟨h0, hy0⟩
        · subst h9
          exact dec64_ten hc.out (by rw [← HY.out]; exact hy1)
        · exact dec64_last0 hc.out h0 (by rw [← HY.out]; exact hy0)
      by_cases h9 : c = 9
      · have e9 : (((c : Int) + 1) == 10) = true := beq_iff_eq.2 (by omega)
        have hne : ((y : Int) != 1) = true := by rw [bne_iff_ne]; omega
        clear hbad h9
        go_wp2
        go_ret2
        exact ⟨by rw [H.out]; rfl, rfl⟩
      · have e9 : (((c : Int) + 1) == 10) = false := beq_eq_false_iff_ne.2 (by omega)
        have e1 : (1 : Int) < (c : Int) + 1 := by omega
        have e0 : ((y : Int) == 0) = true := beq_iff_eq.2 (by omega)
        clear hbad h9
        go_wp2
        go_ret2
        exact ⟨by rw [H.out]; rfl, rfl⟩
    · have H : Hid (dec64 l = (val (l.take (c + 1)), c + 1) ∧ val (l.take (c + 1)) < 18446744073709551616) := dec64_good hc.out (fun h => by rw [← HY.out]; omega) (fun h => by rw [← HY.out]; omega)
      have hw3 : (c = 9 ∧ y = 1) ∨ c = 0 ∨ (0 < c ∧ c < 9 ∧ y ≠ 0) := by omega
      have H9 : Hid (c = 9 → y = 1) := fun h => by omega
      clear hbad
      rcases hw3 with hw3 | hw3 | hw3
      all_goals
        first
          | (have e9 : (((c : Int) + 1) == 10) = true := beq_iff_eq.2 (by omega)
             have hne : ((y : Int) != 1) = false := by rw [bne_eq_false_iff_eq]; omega
             have e1 : (1 : Int) < (c : Int) + 1 := by omega
             have e0 : ((y : Int) == 0) = false := beq_eq_false_iff_ne.2 (by omega))
          | (have e9 : (((c : Int) + 1) == 10) = false := beq_eq_false_iff_ne.2 (by omega)
             have e1 : ¬ (1 : Int) < (c : Int) + 1 := by omega)
          | (have e9 : (((c : Int) + 1) == 10) = false := beq_eq_false_iff_ne.2 (by omega)
             have e1 : (1 : Int) < (c : Int) + 1 := by omega
             have e0 : ((y : Int) == 0) = false := beq_eq_false_iff_ne.2 (by omega))
        clear hw3
        have ez : (((c : Int) + 1) == 0) = false := beq_eq_false_iff_ne.2 (by omega)
        go_wp2
        go_loop [5, 35] (fun u i => ∃ k : Nat, k ≤ c + 1 ∧ i = .int .i64 k ∧ u = .int .u64 (val (l.take k) : Nat)) (fun _ i => c + 1 - (intOf i).toNat)
        case atStart => exact ⟨0, Nat.zero_le _, rfl, rfl⟩
        case round =>
          obtain ⟨k, hk, rfl, rfl⟩ := hrel
          by_cases hlt : k < c + 1
          · have hkc := HCELL.out k (by omega)
            obtain ⟨x, hx⟩ : ∃ x, x = (l.getD k 0).toNat := ⟨_, rfl⟩
            rw [← hx] at hkc
            have hx256 : x < 256 := by rw [hx]; exact UInt8.toNat_lt _
            have HX := hide hx
            clear hx
            obtain ⟨z, hz⟩ : ∃ z, z = val (l.take k) := ⟨_, rfl⟩
            rw [← hz]
            have HZ := hide hz
            clear hz hck
            go_wp2
            go_round
            case rel =>
              refine ⟨k + 1, by omega, by go_num, ?_⟩
              rw [HZ.out, HX.out, or_step l k (by omega) (by omega) (fun h => ?_)]
              have hc9 : c = k := by omega
              rw [← hc9, ← HY.out, H9.out (by omega)]
              decide
            case measure => simp [intOf]; omega
          · go_wp2
            go_ret2
            have ek : k = c + 1 := by omega
            rw [H.out.1, ek]
            exact ⟨rfl, rfl⟩

set_option maxRecDepth 100000 in
set_option maxHeartbeats 400000 in
theorem get_any (v : Value) (l : List UInt8) (w : World) (hr : Rd w v l) :
    Calls Tryd.prog 56 #[v] w fun e w' => e = .returned (.tuple #[.int .i64 ((dec62 l).1 : Nat), .int .i64 ((dec62 l).2 : Nat)]) ∧ w' = w := by
  have HC := hide (groups_any v l w hr)
  have H : Hid (dec62 l = if (dec64 l).1 < 4611686018427387904 then dec64 l else (0, 0)) := rfl
  generalize dec64 l = d at *
  obtain ⟨u, k⟩ := d
  obtain ⟨U, hU⟩ : ∃ U : Int, U = (u : Int) := ⟨_, rfl⟩
  simp only at HC H
  rw [← hU] at HC
  have hU0 : 0 ≤ U := by omega
  have HU := hide hU
  clear hU
  by_cases hu : U < 4611686018427387904
  · go_enter Tryd.func56, Tryd.ntmps56
    go_wp2_with fail
    refine HC.out.mono ?_
    rintro e w' ⟨rfl, rfl⟩
    go_wp2
    go_ret2
    have e := H.out
    have eu := HU.out
    rw [if_pos (by omega)] at e
    rw [e]
    exact ⟨by rw [eu]; rfl, rfl⟩
  · go_enter Tryd.func56, Tryd.ntmps56
    go_wp2_with fail
    refine HC.out.mono ?_
    rintro e w' ⟨rfl, rfl⟩
    go_wp2
    go_ret2
    have e := H.out
    have eu := HU.out
    rw [if_neg (by omega)] at e
    rw [e]
    exact ⟨rfl, rfl⟩

set_option maxRecDepth 100000 in
set_option maxHeartbeats 400000 in
theorem getSigned_any (v : Value) (l : List UInt8) (w : World) (hr : Rd w v l) :
    Calls Tryd.prog 100 #[v] w fun e w' => e = .returned (.tuple #[.int .i64 (zag (dec64 l).1), .int .i64 ((dec64 l).2 : Nat)]) ∧ w' = w := by
  have HC := hide (groups_any v l w hr)
  have hlt := dec64_lt l
  have hle := dec64_le l
  generalize dec64 l = d at *
  obtain ⟨u, k⟩ := d
  simp only at HC hlt hle
  go_enter Tryd.func100, Tryd.ntmps100
  go_wp2_with fail
  refine HC.out.mono ?_
  rintro e w' ⟨rfl, rfl⟩
  go_wp2_with fail
  refine (zag_any u _ hlt).mono ?_
  rintro e w1 ⟨rfl, rfl⟩
  go_wp2
  go_ret2
  exact ⟨rfl, rfl⟩

end Go.Proofs.YtddhcohjmgdajaaDoor

/- Contracts of lowest, Fixed32, Fixed64, Fixed. -/
namespace Go.Proofs.YtddhcohjmgdajaaDoor
open Go.RowKit

theorem leBytes_snoc : ∀ (k v : Nat), Lib.leBytes (k + 1) v = Lib.leBytes k v ++ [(v / 256 ^ k % 256).toUInt8]
  | 0, v => by simp [Lib.leBytes]
  | k + 1, v => by
    have ih := leBytes_snoc k (v / 256)
    have e : v / 256 / 256 ^ k = v / 256 ^ (k + 1) := by rw [Nat.div_div_eq_div_mul, Nat.pow_succ, Nat.mul_comm]
    rw [Lib.leBytes, ih, e]
    simp [Lib.leBytes]

/-- What lies in the row of c bytes behind k rounds. -/
def leRow (c k v : Nat) : List UInt8 := Lib.leBytes k v ++ List.replicate (c - k) 0

theorem leRow_length (c k v : Nat) (h : k ≤ c) : (leRow c k v).length = c := by
  simp [leRow, Lib.leBytes_length]
  omega

theorem leRow_set (c k v : Nat) (h : k < c) : (Lib.byteCells (leRow c k v)).set k (.int .u8 ((v / 256 ^ k % 256 : Nat) : Int)) = Lib.byteCells (leRow c (k + 1) v) := by
  have e : c - k = (c - (k + 1)) + 1 := by omega
  unfold leRow
  rw [leBytes_snoc, e, List.replicate_succ]
  have hl : (Lib.byteCells (Lib.leBytes k v)).length = k := by rw [byteCells_length, Lib.leBytes_length]
  have h8 : ((v / 256 ^ k % 256).toUInt8).toNat = v / 256 ^ k % 256 := Lib.toUInt8_toNat (Nat.mod_lt _ (by decide))
  simp only [Lib.byteCells, List.map_append, List.map_cons, List.map_nil, h8] at hl ⊢
  rw [List.set_append_right _ _ (by omega), hl]
  simp

theorem pow8 (k : Nat) : 2 ^ (8 * k) = 256 ^ k := by rw [Nat.pow_mul]

theorem low_plain (v k : Nat) : ((v : Int) / 2 ^ (8 * k)) % 256 = ((v / 256 ^ k % 256 : Nat) : Int) := by
  rw [← pow8]
  simp

set_option maxRecDepth 100000 in
set_option maxHeartbeats 400000 in
theorem lowest_any (v c : Nat) (w : World) (hc : c ≤ 8) :
    Calls Tryd.prog 67 #[.int .u64 (v : Int), .int .i64 (c : Int)] w fun e w' => ∃ v', e = .returned v' ∧ Own w' w.heap.size v' (Lib.leBytes c v) ∧ Below w.heap.size w w' := by
  obtain ⟨i0, hi, hz0, hz1, hz2⟩ := info_parts info8
  go_enter Tryd.func67, Tryd.ntmps67
  go_wp2_with (at_make; refine wpList_make_full _ rfl _ _ 26 rfl w.heap.size 5 i0 (.int .u8 0) 1 Tryd.underlying26 hi hz0 hz1 _ _ _ _ c rfl rfl rfl rfl (by rw [hz2]; omega) (by unfold maxLen; omega) (Nat.le_refl _) ?_)
  intro w1 hown hgrow
  have hb1 : Below w.heap.size w w1 := (Below.refl _ _).grown hgrow (Nat.le_refl _) (fun k hk => by cases hk)
  have hown1 : w1.ownsRow w.heap.size 5 1 (.slice (some ⟨w.heap.size, 0, none⟩) c c) c (Lib.byteCells (leRow c 0 v)) := by
    have e : (madeCells #[Value.int .u8 0] c).toList = Lib.byteCells (leRow c 0 v) := by
      rw [toList_madeCells_one]
      simp [leRow, Lib.leBytes, Lib.byteCells]
    rw [← e]
    exact hown
  have HO := hide hown1
  have HB := hide hb1
  clear hown hown1 hb1 hgrow
  go_wp2
  go_loopw [11] (fun i wr => ∃ k : Nat, k ≤ c ∧ i = .int .i64 (k : Int) ∧ Hid (wr.ownsRow w.heap.size 5 1 (.slice (some ⟨w.heap.size, 0, none⟩) c c) c (Lib.byteCells (leRow c k v))) ∧ Hid (Below w.heap.size w wr)) (fun i _ => c - (intOf i).toNat)
  case atStart => exact ⟨0, Nat.zero_le _, rfl, HO, HB⟩
  case round =>
    obtain ⟨k, hk, rfl, ho, hb⟩ := hrel
    by_cases hlt : k < c
    · have hcell : wr.cell? ⟨w.heap.size, k, none⟩ = some (.int .u8 ((leRow c k v).getD k 0).toNat) := by
        rw [World.ownsRow.cellAt ho.out k (by omega), byteCells_get _ _ (by rw [leRow_length c k v hk]; exact hlt)]
      have hfr : wr.frozen? ⟨w.heap.size, k, none⟩ = false := World.ownsRow.frozenAt ho.out k
      go_wp2
      go_roundw
      case rel =>
        have hs := World.ownsRow.stored ho.out k (Value.int .u8 ((v / 256 ^ k % 256 : Nat) : Int))
        rw [leRow_set c k v hlt] at hs
        rw [low_plain]
        exact ⟨k + 1, by omega, by go_num, hs.1, hb.out.setCell (Nat.le_refl _) _⟩
      case measure => simp [intOf]; omega
    · go_wp2
      go_ret
      have e : k = c := by omega
      refine ⟨_, rfl, Own.mk' (l := Lib.leBytes c v) ho.out (by rw [Lib.leBytes_length]) ?_, hb.out⟩
      rw [e]
      simp [leRow]

set_option maxRecDepth 100000 in
theorem fixed32_any (v : Nat) (w : World) (h : v < 4294967296) :
    Calls Tryd.prog 49 #[.int .u32 (v : Int)] w fun e w' => ∃ v', e = .returned v' ∧ Own w' w.heap.size v' (Lib.leBytes 4 v) ∧ Below w.heap.size w w' := by
  have HC : Hid (Calls Tryd.prog 67 #[.int .u64 (v : Int), .int .i64 4] w fun e w' => ∃ v', e = .returned v' ∧ Own w' w.heap.size v' (Lib.leBytes 4 v) ∧ Below w.heap.size w w') := lowest_any v 4 w (by omega)
  obtain ⟨U, hU⟩ : ∃ U : Int, U = (v : Int) := ⟨_, rfl⟩
  have h0 : 0 ≤ U := by omega
  have h1 : U < 4294967296 := by omega
  rw [← hU] at HC ⊢
  clear hU h
  go_enter Tryd.func49, Tryd.ntmps49
  go_wp2_with fail
  refine HC.out.mono ?_
  rintro e w' ⟨v', rfl, ho, hb⟩
  have HO := hide ho
  have HB := hide hb
  clear ho hb HC
  go_wp2
  go_ret
  exact ⟨v', rfl, HO.out, HB.out⟩

theorem leNat_lt : ∀ l : List UInt8, Lib.leNat l < 256 ^ l.length
  | [] => by simp [Lib.leNat]
  | c :: r => by
    have h := leNat_lt r
    have hc := c.toNat_lt
    simp only [Lib.leNat, List.length_cons, Nat.pow_succ]
    omega

theorem leNat_snoc : ∀ (l : List UInt8) (c : UInt8), Lib.leNat (l ++ [c]) = Lib.leNat l + c.toNat * 256 ^ l.length
  | [], c => by simp [Lib.leNat]
  | d :: r, c => by
    have h := leNat_snoc r c
    simp only [List.cons_append, Lib.leNat, List.length_cons, Nat.pow_succ, h]
    rw [Nat.mul_add, ← Nat.mul_assoc, Nat.mul_comm 256 c.toNat, Nat.mul_assoc, Nat.mul_comm 256 (256 ^ r.length)]
    omega

theorem leNat_take (l : List UInt8) (k : Nat) (h : k < l.length) : Lib.leNat (l.take (k + 1)) = Lib.leNat (l.take k) + (l.getD k 0).toNat * 256 ^ k := by
  rw [take_snoc l k h, leNat_snoc, List.length_take, Nat.min_eq_left (by omega)]

theorem leNat_take_lt (l : List UInt8) (k : Nat) (h : k ≤ l.length) : Lib.leNat (l.take k) < 256 ^ k := by
  have := leNat_lt (l.take k)
  rwa [List.length_take, Nat.min_eq_left h] at this

theorem or_step8 (l : List UInt8) (k : Nat) (hk : k < l.length) (h8 : k < 8) :
    bits .or .u64 ((Lib.leNat (l.take k) : Nat) : Int) (IntKind.u64.wrap (((l.getD k 0).toNat : Int) * 2 ^ (8 * k))) = ((Lib.leNat (l.take (k + 1)) : Nat) : Int) := by
  have hv := leNat_take_lt l k (by omega)
  rw [leNat_take l k hk, ← pow8]
  rw [← pow8] at hv
  refine or_low (8 * k) _ _ (by omega) hv ?_
  have hp : 2 ^ (8 * k) ≤ 2 ^ 56 := Nat.pow_le_pow_right (by decide) (by omega)
  have hb := (l.getD k 0).toNat_lt
  have hm : (l.getD k 0).toNat ≤ 255 := by omega
  have := Nat.mul_le_mul hm hp
  have e56 : 255 * 2 ^ 56 < 18446744073709551616 := by decide
  omega

set_option maxRecDepth 100000 in
set_option maxHeartbeats 400000 in
theorem fixed_any (v : Value) (l : List UInt8) (w : World) (hr : Rd w v l) :
    Calls Tryd.prog 88 #[v] w fun e w' => e = .returned (.int .u64 (Lib.leNat (l.take 8) : Nat)) ∧ w' = w := by
  obtain ⟨ao, cap, rfl, hlc, hcm, hn0, hao⟩ := hr
  clear hn0
  have hml : (l.length : Int) ≤ 9223372036854775807 := by unfold maxLen at hcm; omega
  by_cases h10 : (l.length : Int) ≤ 8
  all_goals
    go_enter Tryd.func88, Tryd.ntmps88
    go_wp2
    go_loop [3, 8] (fun n i => ∃ k : Nat, i = .int .i64 k ∧ k ≤ 8 ∧ k ≤ l.length ∧ n = .int .u64 (Lib.leNat (l.take k) : Nat)) (fun _ i => 8 - (intOf i).toNat)
    case atStart => exact ⟨0, rfl, by omega, by omega, rfl⟩
    case round =>
      obtain ⟨k, rfl, hk10, hkl, rfl⟩ := hrel
      by_cases hlt : k < 8 ∧ k < l.length
      · obtain ⟨hlt, hlt'⟩ := hlt
        rcases hao with hao | ⟨b, off, rfl, hc⟩
        · subst hao; simp at hlt'
        · have hck := hc k hlt'
          have HS := hide (or_step8 l k hlt' hlt)
          have hy : (l.getD k 0).toNat < 256 := UInt8.toNat_lt _
          clear hc
          generalize (l.getD k 0).toNat = y at *
          generalize Lib.leNat (l.take k) = z at *
          go_wp2
          go_round
          case rel => exact ⟨k + 1, by go_num, by omega, by omega, by rw [HS.out]⟩
          case measure => simp [intOf]; omega
      · go_wp2
        go_ret
        refine ⟨ret_int ?_, rfl⟩
        by_cases e : k = 8
        · rw [e]
        · rw [List.take_of_length_le (by omega : l.length ≤ k), List.take_of_length_le (by omega : l.length ≤ 8)]

end Go.Proofs.YtddhcohjmgdajaaDoor

/- Contracts of the document's answer for layer num, its readers: read, Get, GetSigned, Fixed, Zig, Zag. -/
namespace Go.Proofs.YtddhcohjmgdajaaDoor
open Go.RowKit

theorem zigzag_neg' (n : Int) (h : ¬ 0 ≤ n) : ((Lib.zigzag n : Nat) : Int) = -(n + 1) * 2 + 1 := by
  unfold Lib.zigzag
  rw [if_neg h]
  omega

set_option maxRecDepth 100000 in
set_option maxHeartbeats 400000 in
theorem refZig_any (n : Int) (w : World) (h0 : -9223372036854775808 ≤ n) (h1 : n ≤ 9223372036854775807) :
    Calls Tryd.prog 98 #[.int .i64 n] w fun e w' => e = .returned (.int .u64 (Lib.zigzag n : Nat)) ∧ w' = w := by
  by_cases h : 0 ≤ n
  · have HZ := hide (Lib.zigzag_nonneg h)
    go_enter Tryd.func98, Tryd.ntmps98
    go_wp2
    go_ret
    exact ⟨ret_int (by rw [HZ.out]), rfl⟩
  · have HZ := hide (zigzag_neg' n h)
    go_enter Tryd.func98, Tryd.ntmps98
    go_wp2
    go_ret
    exact ⟨ret_int (by rw [HZ.out]), rfl⟩

/-- 128^k modulo 2^64, as read reckons it. -/
def one128 (k : Nat) : Int := ((128 ^ k % 18446744073709551616 : Nat) : Int)

theorem one_step (k : Nat) : (one128 k * 128) % 18446744073709551616 = one128 (k + 1) := by
  unfold one128
  rw [Nat.pow_succ]
  omega

theorem read_step (l : List UInt8) (k : Nat) (hk : k < l.length) (h10 : k < 10) (h9 : k = 9 → ((l.getD k 0).toNat : Int) % 128 ≤ 1) :
    (((val (l.take k) : Nat) : Int) + (((l.getD k 0).toNat : Int) % 128 * one128 k) % 18446744073709551616) % 18446744073709551616 = ((val (l.take (k + 1)) : Nat) : Int) := by
  have hv := val_take_lt l k (by omega)
  have ho : one128 k = ((128 ^ k : Nat) : Int) := by
    unfold one128
    have : 128 ^ k ≤ 128 ^ 9 := Nat.pow_le_pow_right (by decide) (by omega)
    have e9 : 128 ^ 9 = 9223372036854775808 := by decide
    rw [Nat.mod_eq_of_lt (by omega)]
  rw [ho, val_take l k hk]
  have e : (((l.getD k 0).toNat : Int) % 128 * ((128 ^ k : Nat) : Int)) = (((l.getD k 0).toNat % 128 * 128 ^ k : Nat) : Int) := by
    rw [Int.natCast_mul]
    simp
  rw [e]
  have hb : (l.getD k 0).toNat % 128 * 128 ^ k < 9223372036854775809 := by
    by_cases hk9 : k = 9
    · have := h9 hk9
      subst hk9
      have e9 : 128 ^ 9 = 9223372036854775808 := by decide
      rw [e9]
      omega
    · have hp : 128 ^ k ≤ 128 ^ 8 := Nat.pow_le_pow_right (by decide) (by omega)
      have hm : (l.getD k 0).toNat % 128 ≤ 127 := by omega
      have := Nat.mul_le_mul hm hp
      have e8 : 127 * 128 ^ 8 < 9223372036854775809 := by decide
      omega
  have hv2 : val (l.take k) < 9223372036854775808 := by
    have : 128 ^ k ≤ 128 ^ 9 := Nat.pow_le_pow_right (by decide) (by omega)
    have e9 : 128 ^ 9 = 9223372036854775808 := by decide
    omega
  omega

/-- The number of the bytes from the k-th on, of the first eight. -/
def leTail (l : List UInt8) (k : Nat) : Nat := Lib.leNat ((l.take 8).drop k)

theorem leTail_out (l : List UInt8) (k : Nat) (h : l.length ≤ k) : leTail l k = leTail l (k + 1) := by
  unfold leTail
  rw [List.drop_of_length_le (by simp; omega), List.drop_of_length_le (by simp; omega)]

theorem leTail_in (l : List UInt8) (k : Nat) (h : k < l.length) (h8 : k < 8) : leTail l k = (l.getD k 0).toNat + 256 * leTail l (k + 1) := by
  unfold leTail
  have hk : k < (l.take 8).length := by simp; omega
  rw [List.drop_eq_getElem_cons hk, Lib.leNat]
  simp [List.getD, h]

theorem leTail_lt (l : List UInt8) (k : Nat) (h8 : k ≤ 8) : leTail l k < 256 ^ (8 - k) := by
  unfold leTail
  have h := leNat_lt ((l.take 8).drop k)
  have h2 : ((l.take 8).drop k).length ≤ 8 - k := by simp; omega
  have h3 : 256 ^ ((l.take 8).drop k).length ≤ 256 ^ (8 - k) := Nat.pow_le_pow_right (by decide) h2
  omega

theorem fixed_step (l : List UInt8) (k : Nat) (h : k < l.length) (h8 : k < 8) :
    ((((leTail l (k + 1) : Nat) : Int) * 256) % 18446744073709551616 + ((l.getD k 0).toNat : Int)) % 18446744073709551616 = ((leTail l k : Nat) : Int) := by
  have h1 := leTail_in l k h h8
  have h2 := leTail_lt l (k + 1) (by omega)
  have h3 : 256 ^ (8 - (k + 1)) ≤ 256 ^ 7 := Nat.pow_le_pow_right (by decide) (by omega)
  have e7 : 256 ^ 7 = 72057594037927936 := by decide
  have hb := (l.getD k 0).toNat_lt
  omega

end Go.Proofs.YtddhcohjmgdajaaDoor

/- Contracts of the document's answer for layer num, what it puts: groups, Put, PutSigned, Fix. -/
namespace Go.Proofs.YtddhcohjmgdajaaDoor
open Go.RowKit

set_option maxRecDepth 100000 in
set_option maxHeartbeats 1000000 in
theorem refGroups_any (u : Nat) (w : World) (hu : u < 18446744073709551616) :
    Calls Tryd.prog 51 #[.int .u64 (u : Int)] w fun e w' => ∃ v', e = .returned v' ∧ Own w' w.heap.size v' (Lib.uvarint u) ∧ Below w.heap.size w w' := by
  obtain ⟨i0, hi, hz0, hz1, hz2⟩ := info_parts info8
  have hlen := Lib.uvarint_length64 hu
  have HU := hide hu
  clear hu
  go_enter Tryd.func51, Tryd.ntmps51
  go_wp2
  go_loopw [0, 3] (fun vu vb wr => ∃ (y : Nat) (pre : List UInt8), vu = .int .u64 (y : Int) ∧ Hid (y ≤ u ∧ Lib.uvarint u = pre ++ Lib.uvarint y) ∧ Hid (Own wr w.heap.size vb ([] ++ pre)) ∧ Hid (Below w.heap.size w wr))
    (fun vu _ _ => (intOf vu).toNat)
  case atStart => exact ⟨u, [], rfl, ⟨Nat.le_refl _, rfl⟩, Own.nil _ _, Below.refl _ _⟩
  case round =>
    obtain ⟨y, pre, rfl, hys, hown1, hnx⟩ := hrel
    have hpl : pre.length + (Lib.uvarint y).length ≤ 10 := by
      have h2 := congrArg List.length hys.out.2
      rw [List.length_append] at h2
      omega
    have hyp := Lib.uvarint_pos y
    have hsz := hnx.out.size
    have hyb : (y : Int) ≤ 18446744073709551615 := by have := hys.out.1; have := HU.out; omega
    by_cases h128 : 128 ≤ y
    · go_wp2_with (at_builtin; refine wpList_append_own _ rfl _ _ 26 rfl w.heap.size 5 i0 (.int .u8 0) 1 1 Tryd.underlying26 hi hz0 hz1 hz2 rfl (by decide) _ _ _ rfl (World.ownsRow.alloc hown1.out _) ⟨wr.heap.size, 0, none⟩ 1 1 [Value.int .u8 ((y % 128 + 128 : Nat) : Int)] rfl rfl ?c1 ?c2 ?c3 ?c4 ?c5 ?_)
      case c1 =>
        intro j u hj
        match j, hj with
        | 0, hj => simp at hj; subst hj; simp [Addr.add]
      case c2 => intro u hu; simp at hu; subst hu; rfl
      case c3 => unfold maxLen; simp; omega
      case c4 => simp; omega
      case c5 => simp; omega
      intro v' w1 hown' hgrow _
      have hnx1 : Below w.heap.size w w1 := (hnx.out.alloc (by omega) _).grown hgrow (by simp; omega) (fun k hk => (World.ownsRow.lt hown1.out k hk).1)
      have HO := hide (Own.snoc [] pre (y % 128 + 128) (by omega) hown' (by simp) (by omega))
      have HB := hide hnx1
      clear hown' hnx1 hgrow
      go_wp2
      go_roundw
      case rel => exact ⟨y / 128, pre ++ [(y % 128 + 128).toUInt8], by go_num, ⟨by have := hys.out.1; omega, by rw [hys.out.2, Lib.uvarint_big h128]; simp⟩, HO, HB⟩
      case measure => simp [intOf]; omega
    · have hsm : Lib.uvarint y = [y.toUInt8] := Lib.uvarint_small (by omega)
      have HS := hide hsm
      clear hsm
      go_wp2_with (at_builtin; refine wpList_append_own _ rfl _ _ 26 rfl w.heap.size 5 i0 (.int .u8 0) 1 1 Tryd.underlying26 hi hz0 hz1 hz2 rfl (by decide) _ _ _ rfl (World.ownsRow.alloc hown1.out _) ⟨wr.heap.size, 0, none⟩ 1 1 [Value.int .u8 (y : Int)] rfl rfl ?c1 ?c2 ?c3 ?c4 ?c5 ?_)
      case c1 =>
        intro j u hj
        match j, hj with
        | 0, hj => simp at hj; subst hj; simp [Addr.add]
      case c2 => intro u hu; simp at hu; subst hu; rfl
      case c3 => unfold maxLen; simp; omega
      case c4 => simp; omega
      case c5 => simp; omega
      intro v' w1 hown' hgrow _
      have hnx1 : Below w.heap.size w w1 := (hnx.out.alloc (by omega) _).grown hgrow (by simp; omega) (fun k hk => (World.ownsRow.lt hown1.out k hk).1)
      have HO := hide (Own.snoc [] pre y (by omega) hown' (by simp) rfl)
      have HB := hide hnx1
      clear hown' hnx1 hgrow
      go_wp2
      go_ret
      refine ⟨v', rfl, ?_, HB.out⟩
      rw [hys.out.2, HS.out]
      exact HO.out

set_option maxRecDepth 100000 in
set_option maxHeartbeats 1000000 in
theorem refPut_any (v : Value) (l : List UInt8) (n : Int) (w : World) (hr : Rd w v l) (hlim : l.length ≤ 100000) :
    Calls Tryd.prog 30 #[v, .int .i64 n] w fun e w' => ∃ v', e = .returned v' ∧ Own w' w.heap.size v' (putOf l n) ∧ Below w.heap.size w w' := by
  have HR := hide hr
  clear hr
  by_cases h : 0 ≤ n ∧ n < 4611686018427387904
  · obtain ⟨h0, h1⟩ := h
    have HE : Hid (putOf l n = l ++ Lib.uvarint n.toNat) := if_pos ⟨h0, h1⟩
    have HL : Hid ((Lib.uvarint n.toNat).length ≤ 10) := Lib.uvarint_length64 (by omega)
    have HG : Hid (∀ w, Calls Tryd.prog 51 #[.int .u64 n] w fun e w' => ∃ v', e = .returned v' ∧ Own w' w.heap.size v' (Lib.uvarint n.toNat) ∧ Below w.heap.size w w') := by
      intro w
      have h := refGroups_any n.toNat w (by omega)
      have en : ((n.toNat : Nat) : Int) = n := Int.toNat_of_nonneg h0
      rwa [en] at h
    go_enter Tryd.func30, Tryd.ntmps30
    go_wp2_with (at_builtin; refine wpList_append_rd _ rfl _ _ rfl w.heap.size _ [] rfl (Own.nil _ _) _ l rfl HR.out (by simp; omega) (Nat.le_refl _) ?_)
    intro v1 w1 ho1 hb1
    have HO1 := hide ho1
    have HB1 := hide hb1
    clear ho1 hb1
    go_wp2_with fail
    refine (HG.out _).mono ?_
    rintro e w2 ⟨v2, rfl, ho2, hb2⟩
    have hs2 := HB1.out.size
    have HB2 := hide (HB1.out.trans (hb2.mono hs2))
    have HO2 := hide ho2
    have HO12 : Hid (Own w2 w.heap.size v1 l) := HO1.out.below hb2 (Nat.le_refl _)
    have hs3 := hb2.size
    clear ho2 hb2
    go_wp2_with (at_builtin; refine wpList_append_rd _ rfl _ _ rfl w.heap.size _ l rfl HO12.out _ (Lib.uvarint n.toNat) rfl HO2.out.rd (by have := HL.out; omega) (by omega) ?_)
    intro v3 w3 ho3 hb3
    have HO3 := hide ho3
    have HB3 := hide (HB2.out.trans hb3)
    clear ho3 hb3
    go_wp2
    go_ret
    exact ⟨v3, rfl, by rw [HE.out]; exact HO3.out, HB3.out⟩
  · have HE : Hid (putOf l n = l) := if_neg h
    by_cases h0 : n < 0
    all_goals
      go_enter Tryd.func30, Tryd.ntmps30
      go_wp2_with (at_builtin; refine wpList_append_rd _ rfl _ _ rfl w.heap.size _ [] rfl (Own.nil _ _) _ l rfl HR.out (by simp; omega) (Nat.le_refl _) ?_)
      intro v1 w1 ho1 hb1
      have HO1 := hide ho1
      have HB1 := hide hb1
      clear ho1 hb1
      go_wp2
      go_ret
      exact ⟨v1, rfl, by rw [HE.out]; exact HO1.out, HB1.out⟩

set_option maxRecDepth 100000 in
set_option maxHeartbeats 1000000 in
theorem refPutSigned_any (v : Value) (l : List UInt8) (n : Int) (w : World) (hr : Rd w v l) (hlim : l.length ≤ 100000) (h0 : -9223372036854775808 ≤ n) (h1 : n ≤ 9223372036854775807) :
    Calls Tryd.prog 81 #[v, .int .i64 n] w fun e w' => ∃ v', e = .returned v' ∧ Own w' w.heap.size v' (l ++ Lib.uvarint (Lib.zigzag n)) ∧ Below w.heap.size w w' := by
  have HR := hide hr
  clear hr
  have HL : Hid ((Lib.uvarint (Lib.zigzag n)).length ≤ 10) := Lib.uvarint_length64 (Lib.zigzag_lt h0 h1)
  have HG := hide (fun w => refGroups_any (Lib.zigzag n) w (Lib.zigzag_lt h0 h1))
  have HZ := hide (fun w => refZig_any n w h0 h1)
  generalize Lib.zigzag n = z at *
  go_enter Tryd.func81, Tryd.ntmps81
  go_wp2_with (at_builtin; refine wpList_append_rd _ rfl _ _ rfl w.heap.size _ [] rfl (Own.nil _ _) _ l rfl HR.out (by simp; omega) (Nat.le_refl _) ?_)
  intro v1 w1 ho1 hb1
  have HO1 := hide ho1
  have HB1 := hide hb1
  clear ho1 hb1
  go_wp2_with fail
  refine (HZ.out _).mono ?_
  rintro e w' ⟨rfl, rfl⟩
  go_wp2_with fail
  refine (HG.out _).mono ?_
  rintro e w2 ⟨v2, rfl, ho2, hb2⟩
  have hs2 := HB1.out.size
  have HB2 := hide (HB1.out.trans (hb2.mono hs2))
  have HO2 := hide ho2
  have HO12 : Hid (Own w2 w.heap.size v1 l) := HO1.out.below hb2 (Nat.le_refl _)
  have hs3 := hb2.size
  clear ho2 hb2
  go_wp2_with (at_builtin; refine wpList_append_rd _ rfl _ _ rfl w.heap.size _ l rfl HO12.out _ (Lib.uvarint z) rfl HO2.out.rd (by have := HL.out; omega) (by omega) ?_)
  intro v3 w3 ho3 hb3
  have HO3 := hide ho3
  have HB3 := hide (HB2.out.trans hb3)
  clear ho3 hb3
  go_wp2
  go_ret
  exact ⟨v3, rfl, HO3.out, HB3.out⟩

set_option maxRecDepth 100000 in
set_option maxHeartbeats 1000000 in
theorem fix_any (v c : Nat) (w : World) (hc : c ≤ 8) (hv : v < 18446744073709551616) :
    Calls Tryd.prog 48 #[.int .u64 (v : Int), .int .i64 (c : Int)] w fun e w' => ∃ v', e = .returned v' ∧ Own w' w.heap.size v' (Lib.leBytes c v) ∧ Below w.heap.size w w' := by
  obtain ⟨i0, hi, hz0, hz1, hz2⟩ := info_parts info8
  have HV := hide hv
  clear hv
  go_enter Tryd.func48, Tryd.ntmps48
  go_wp2
  go_loopw [0, 5, 6] (fun vn vb vi wr => ∃ k : Nat, k ≤ c ∧ vi = .int .i64 (k : Int) ∧ vn = .int .u64 ((v / 256 ^ k : Nat) : Int) ∧ Hid (Own wr w.heap.size vb ([] ++ Lib.leBytes k v)) ∧ Hid (Below w.heap.size w wr))
    (fun _ _ vi _ => c - (intOf vi).toNat)
  case atStart => exact ⟨0, Nat.zero_le _, rfl, by simp, Own.nil _ _, Below.refl _ _⟩
  case round =>
    obtain ⟨k, hk, rfl, rfl, hown1, hnx⟩ := hrel
    have hsz := hnx.out.size
    by_cases hlt : k < c
    · have HQ : Hid (v / 256 ^ (k + 1) = v / 256 ^ k / 256 ∧ Lib.leBytes (k + 1) v = Lib.leBytes k v ++ [(v / 256 ^ k % 256).toUInt8]) := ⟨by rw [Nat.pow_succ, Nat.div_div_eq_div_mul], leBytes_snoc k v⟩
      have hll := Lib.leBytes_length k v
      have HLL := hide hll
      have hl8 : (Lib.leBytes k v).length ≤ 8 := by omega
      have hyb : ((v / 256 ^ k : Nat) : Int) ≤ 18446744073709551615 := by have := Nat.div_le_self v (256 ^ k); have := HV.out; omega
      clear hll
      generalize v / 256 ^ k = y at *
      generalize Lib.leBytes k v = pre at *
      go_wp2_with (at_builtin; refine wpList_append_own _ rfl _ _ 26 rfl w.heap.size 5 i0 (.int .u8 0) 1 1 Tryd.underlying26 hi hz0 hz1 hz2 rfl (by decide) _ _ _ rfl (World.ownsRow.alloc hown1.out _) ⟨wr.heap.size, 0, none⟩ 1 1 [Value.int .u8 ((y % 256 : Nat) : Int)] rfl rfl ?c1 ?c2 ?c3 ?c4 ?c5 ?_)
      case c1 =>
        intro j u hj
        match j, hj with
        | 0, hj => simp at hj; subst hj; simp [Addr.add]
      case c2 => intro u hu; simp at hu; subst hu; rfl
      case c3 => unfold maxLen; simp; omega
      case c4 => simp; omega
      case c5 => simp; omega
      intro v' w1 hown' hgrow _
      have hnx1 : Below w.heap.size w w1 := (hnx.out.alloc (by omega) _).grown hgrow (by simp; omega) (fun k hk => (World.ownsRow.lt hown1.out k hk).1)
      have HO := hide (Own.snoc [] pre (y % 256) (by omega) hown' (by simp) (by omega))
      have HB := hide hnx1
      clear hown' hnx1 hgrow
      go_wp2
      go_roundw
      case rel => exact ⟨k + 1, by omega, by go_num, by rw [HQ.out.1]; go_num, by rw [HQ.out.2]; exact HO, HB⟩
      case measure => simp [intOf]; omega
    · go_wp2
      go_ret
      have e : k = c := by omega
      exact ⟨_, rfl, by rw [← e]; exact hown1.out, hnx.out⟩

end Go.Proofs.YtddhcohjmgdajaaDoor

/- awake answers true: the chapter's examples. It only makes memory of its own. -/
namespace Go.Proofs.YtddhcohjmgdajaaDoor
open Go.RowKit

/-- Bytes as a string. -/
def bs (l : List UInt8) : ByteArray := ⟨l.toArray⟩

theorem bs_list (l : List UInt8) : (bs l).toList = l := ByteArray.toList_mk l

theorem bs_size (l : List UInt8) : (bs l).size = l.length := by simp [bs, ByteArray.size]

theorem bs_take (l : List UInt8) (n : Nat) : ((bs l).extract 0 n).toList = l.take n := by
  rw [ByteArray.toList_eq]
  simp [bs]

theorem bs_eq (a b : List UInt8) : ((bs a).toList == (bs b).toList) = (a == b) := by rw [bs_list, bs_list]

theorem Rd.str {w : World} {v : Value} {l : List UInt8} (h : Rd w v l) : (convert 26 9 v).run Tryd.prog w = .ok (.string (bs l)) w := by
  obtain ⟨ao, cap, rfl, _, _, hn, h⟩ := h
  cases ao with
  | none =>
    have hl : l = [] := List.eq_nil_of_length_eq_zero (by have := hn rfl; omega)
    subst hl
    exact run_convert_bytes_nil w 26 5 Tryd.underlying26 Tryd.underlying5 0 cap 9 Tryd.underlying9
  | some a =>
    have hl : (loadCells a l.length).run Tryd.prog w = .ok ((l.map fun c => (c.toNat : Int)).map (Value.int .u8)).toArray w := by
      have := run_loadCells_list (P := Tryd.prog) w a (Lib.byteCells l) (Rd.cells h a rfl)
      rw [byteCells_length] at this
      rw [this]
      simp [Lib.byteCells, Function.comp_def]
    rw [run_convert_bytes_string w 26 9 5 _ l.length cap Tryd.underlying26 Tryd.underlying5 Tryd.underlying9, run_bytesToString w _ l.length cap _ hl, foldl_push_bytes]
    have e : (List.map (fun n : Int => UInt8.ofNat n.toNat) (List.map (fun c : UInt8 => (c.toNat : Int)) l)) = l := by
      rw [List.map_map]
      conv => rhs; rw [← List.map_id l]
      apply List.map_congr_left
      intro c _
      simp
    rw [e]
    simp [bs, ByteArray.empty, ByteArray.emptyWithCapacity]
    rfl

theorem uvarint300 : Lib.uvarint 300 = [172, 2] := by
  rw [Lib.uvarint_big (by decide), Lib.uvarint_small (by decide)]
  decide

end Go.Proofs.YtddhcohjmgdajaaDoor

/- Slices of bytes cut, and slices of slices of bytes: what one reads ('RdL'), what a call makes ('OwnL'). -/
namespace Go.Proofs.YtddhcohjmgdajaaDoor
open Go.RowKit

/-- Bytes in the midst of what is read. -/
theorem Rd.mid {w : World} {ao : Option Addr} {n cap : Nat} {l : List UInt8} (h : Rd w (.slice ao n cap) l) (i j m : Nat) (hij : i ≤ j) (hj : j ≤ l.length) (hm : j ≤ m) (hmc : m ≤ cap) : Rd w (sliced ao i j m 1) ((l.drop i).take (j - i)) := by
  obtain ⟨ao', cap', hv, h1, h2, h3, h4⟩ := h
  simp only [Value.slice.injEq] at hv
  obtain ⟨rfl, rfl, rfl⟩ := hv
  have hlen : ((l.drop i).take (j - i)).length = j - i := by simp; omega
  unfold sliced
  by_cases hmi : m = i
  · rw [if_pos hmi]
    have e : j - i = 0 := by omega
    refine ⟨ao, m - i, by rw [hlen], by omega, by omega, fun hn => by have := h3 hn; omega, .inl ?_⟩
    rw [e]
    simp
  · rw [if_neg hmi]
    refine ⟨ao.map (·.add (i * 1)), m - i, by rw [hlen], by omega, by omega, fun hn => ?_, ?_⟩
    · have hn' : ao = none := by simpa using hn
      have := h3 hn'
      omega
    · rcases h4 with h4 | ⟨b, off, h5, h6⟩
      · exact .inl (by rw [h4]; simp)
      · refine .inr ⟨b, off + i, ?_, fun k hk => ?_⟩
        · rw [h5, Nat.mul_one, Option.map_some, Addr.add_lit]
        · rw [hlen] at hk
          rw [Nat.add_assoc, h6 (i + k) (by omega)]
          simp [List.getD, hk]

theorem elem_bytes : Tryd.prog.elem 26 = 5 := by kernel_rfl

theorem size_u8 (w : World) : (sizeOf 5).run Tryd.prog w = .ok 1 w := by
  obtain ⟨i0, hi, _, hz1, _⟩ := info_parts info8
  simp [sizeOf, typeInfo, hi, hz1]

theorem under_bytes : Tryd.prog.underlying 26 = some (.slice (Tryd.prog.elem 26)) := by rw [elem_bytes]; exact Tryd.underlying26

theorem run_cut_lh (w : World) (v : Value) (l : List UInt8) (hr : Rd w v l) (k k' : IntKind) (i j : Int) (h0 : 0 ≤ i) (h1 : i ≤ j) (h2 : j ≤ l.length) :
    ∃ v', (Instr.sliceAt 26 v (some (.int k i)) (some (.int k' j)) none).run Tryd.prog w = .ok v' w ∧ Rd w v' ((l.drop i.toNat).take (j.toNat - i.toNat)) := by
  have h := hr
  obtain ⟨ao, cap, rfl, hlc, _⟩ := hr
  refine ⟨sliced ao i.toNat j.toNat cap 1, ?_, h.mid i.toNat j.toNat cap (by omega) (by omega) (by omega) (Nat.le_refl _)⟩
  rw [run_sliceAt_slice w 26 _ _ _ _ under_bytes, run_slice_lh w 26 ao l.length cap under_bytes k k' i j h0 h1 (by omega), elem_bytes, size_u8]
  rfl

theorem run_cut_l (w : World) (v : Value) (l : List UInt8) (hr : Rd w v l) (k : IntKind) (i : Int) (h0 : 0 ≤ i) (h2 : i ≤ l.length) :
    ∃ v', (Instr.sliceAt 26 v (some (.int k i)) none none).run Tryd.prog w = .ok v' w ∧ Rd w v' (l.drop i.toNat) := by
  have h := hr
  obtain ⟨ao, cap, rfl, hlc, _⟩ := hr
  refine ⟨sliced ao i.toNat l.length cap 1, ?_, ?_⟩
  · rw [run_sliceAt_slice w 26 _ _ _ _ under_bytes, run_slice_l w 26 ao l.length cap under_bytes k i h0 (by omega), elem_bytes, size_u8]
    rfl
  · have := h.mid i.toNat l.length cap (by omega) (Nat.le_refl _) hlc (Nat.le_refl _)
    rw [List.take_of_length_le (by simp)] at this
    exact this

theorem run_cut_h (w : World) (v : Value) (l : List UInt8) (hr : Rd w v l) (k : IntKind) (j : Int) (h0 : 0 ≤ j) (h2 : j ≤ l.length) :
    ∃ v', (Instr.sliceAt 26 v none (some (.int k j)) none).run Tryd.prog w = .ok v' w ∧ Rd w v' (l.take j.toNat) := by
  have h := hr
  obtain ⟨ao, cap, rfl, hlc, _⟩ := hr
  refine ⟨sliced ao 0 j.toNat cap 1, ?_, ?_⟩
  · rw [run_sliceAt_slice w 26 _ _ _ _ under_bytes, run_slice_h w 26 ao l.length cap under_bytes k j h0 (by omega), elem_bytes, size_u8]
    rfl
  · have := h.mid 0 j.toNat cap (by omega) (by omega) (by omega) (Nat.le_refl _)
    simpa using this

theorem run_cut_lhm (w : World) (v : Value) (l : List UInt8) (hr : Rd w v l) (k k' k2 : IntKind) (i j m : Int) (h0 : 0 ≤ i) (h1 : i ≤ j) (h2 : j ≤ m) (h3 : m ≤ l.length) :
    ∃ v', (Instr.sliceAt 26 v (some (.int k i)) (some (.int k' j)) (some (.int k2 m))).run Tryd.prog w = .ok v' w ∧ Rd w v' ((l.drop i.toNat).take (j.toNat - i.toNat)) := by
  have h := hr
  obtain ⟨ao, cap, rfl, hlc, _⟩ := hr
  refine ⟨sliced ao i.toNat j.toNat m.toNat 1, ?_, h.mid i.toNat j.toNat m.toNat (by omega) (by omega) (by omega) (by omega)⟩
  rw [run_sliceAt_slice w 26 _ _ _ _ under_bytes, run_slice_lhm w 26 ao l.length cap under_bytes k k' k2 i j m h0 h1 h2 (by omega), elem_bytes, size_u8]
  rfl

theorem run_cut_hm (w : World) (v : Value) (l : List UInt8) (hr : Rd w v l) (k' k2 : IntKind) (j m : Int) (h1 : 0 ≤ j) (h2 : j ≤ m) (h3 : m ≤ l.length) :
    ∃ v', (Instr.sliceAt 26 v none (some (.int k' j)) (some (.int k2 m))).run Tryd.prog w = .ok v' w ∧ Rd w v' (l.take j.toNat) := by
  have h := hr
  obtain ⟨ao, cap, rfl, hlc, _⟩ := hr
  refine ⟨sliced ao 0 j.toNat m.toNat 1, ?_, ?_⟩
  · rw [run_sliceAt_slice w 26 _ _ _ _ under_bytes, run_slice_hm w 26 ao l.length cap under_bytes k' k2 j m h1 h2 (by omega), elem_bytes, size_u8]
    rfl
  · have := h.mid 0 j.toNat m.toNat (by omega) (by omega) (by omega) (by omega)
    simpa using this

/-- A cut, once one knows what it makes. -/
theorem wpList_cut (w : World) {ops : Array Oper} {rest : List Oper} {o : Oper} {a : Act} {Q : Exit → Act → World → Prop} (hgd : o.guard = none) (x : Operand) (lo hi mx : Option Operand)
    (ho : o.op = .slice 26 x lo hi mx) (l : List UInt8)
    (hrun : ∃ v', (Instr.sliceAt 26 (a.eval x) (lo.map a.eval) (hi.map a.eval) (mx.map a.eval)).run Tryd.prog w = .ok v' w ∧ Rd w v' l)
    (h : ∀ v', Rd w v' l → wpList Tryd.prog ops Q rest (a.put o.dst v') w) : wpList Tryd.prog ops Q (o :: rest) a w :=
  wpList_plain hgd fun _ hK => by
    obtain ⟨v', hrun, hr⟩ := hrun
    unfold Oper.wp execOp
    simp only [ho, hrun, Sem.run_bind, Sem.run_pure, Result.andThen_ok]
    exact hK _ _ (h v' hr)

end Go.Proofs.YtddhcohjmgdajaaDoor

/- Contracts of ferrymanref04: cut, find, without, with, pairs. -/
namespace Go.Proofs.YtddhcohjmgdajaaDoor
open Go.RowKit

set_option maxRecDepth 100000 in
theorem refCut_any (n : Int) (w : World) : Calls Tryd.prog 86 #[.int .i64 n] w fun e w' => e = .returned (.int .i64 (cutZ n)) ∧ w' = w := by
  by_cases h1 : n < -1099511627776
  · have HE : Hid (cutZ n = -1099511627776) := if_pos h1
    go_enter Tryd.func86, Tryd.ntmps86
    go_wp2
    go_ret
    exact ⟨ret_i HE.out.symm, rfl⟩
  · by_cases h2 : 1099511627776 < n
    · have HE : Hid (cutZ n = 1099511627776) := by unfold cutZ; rw [if_neg h1, if_pos h2]; exact rfl
      go_enter Tryd.func86, Tryd.ntmps86
      go_wp2
      go_ret
      exact ⟨ret_i HE.out.symm, rfl⟩
    · have HE : Hid (cutZ n = n) := by unfold cutZ; rw [if_neg h1, if_neg h2]; exact rfl
      go_enter Tryd.func86, Tryd.ntmps86
      go_wp2
      go_ret
      exact ⟨ret_i HE.out.symm, rfl⟩

end Go.Proofs.YtddhcohjmgdajaaDoor

