/- Objects: what a step makes of a state, over plain lists of numbers, and what follows from it. -/
import Derived.Test.YtgmdhlchdjlgnaaObjsPlain
namespace Go.Proofs.Ytgmdhlchdjlgnaa

/-- A counter's or a register's step. -/
def oneS (s : St) (o : Opn) : St × Int :=
  if s.kind = 0 ∧ o.code = 1 then (⟨s.kind, [cutZ (s.L.getD 0 0 + cutZ o.a)], s.shut, s.eng⟩, s.L.getD 0 0) else
  if s.kind = 1 ∧ o.code = 2 then (⟨s.kind, [cutZ o.a], s.shut, s.eng⟩, s.L.getD 0 0) else
  if o.code = 7 then (s, s.L.getD 0 0) else (s, 0)

/-- A queue's or a stack's step. -/
def listS (s : St) (o : Opn) : St × Int :=
  if o.code = 3 then (if s.L.length = 64 then (s, -1) else (⟨s.kind, s.L ++ [cutZ o.a], s.shut, s.eng⟩, (s.L.length : Int) + 1)) else
  if o.code = 4 then (if s.L.length = 0 then (s, -1) else if s.kind = 2 then (⟨s.kind, s.L.drop 1, s.shut, s.eng⟩, s.L.getD 0 0) else (⟨s.kind, s.L.take (s.L.length - 1), s.shut, s.eng⟩, s.L.getD (s.L.length - 1) 0)) else
  if o.code = 7 then (s, (s.L.length : Int)) else (s, 0)

/-- What a key has, or -1. -/
def hadF (key : Int) (l : List Int) : Int := if 0 ≤ findF key 0 l then l.getD ((findF key 0 l).toNat + 1) 0 else -1

/-- A store's step. -/
def storeS (s : St) (o : Opn) : St × Int :=
  if o.code ≠ 7 ∧ o.code ≠ 6 ∧ o.code ≠ 5 then (s, 0) else
  if o.a < 0 ∨ 255 < o.a then (s, -1) else
  if o.code = 6 then (⟨s.kind, withoutF o.a s.L, s.shut, s.eng⟩, hadF o.a s.L) else
  if o.code = 5 then (if findF o.a 0 s.L < 0 ∧ s.L.length = 128 then (s, -2) else (⟨s.kind, withF o.a (cutZ o.b) false s.L, s.shut, s.eng⟩, hadF o.a s.L)) else
  (s, hadF o.a s.L)

/-- What a key has, or 0. -/
def hasF (key : Int) (l : List Int) : Int := if 0 ≤ findF key 0 l then l.getD ((findF key 0 l).toNat + 1) 0 else 0

/-- A move within a ledger. -/
def moveS (s : St) (o : Opn) : St × Int :=
  if o.a < 0 ∨ 65535 < o.a ∨ o.b < 0 then (s, 0) else
  if findF (o.a / 256) 0 s.L < 0 ∨ hasF (o.a / 256) s.L < o.b then (s, 0) else
  if o.a / 256 = o.a % 256 then (s, 1) else
  if (findF (o.a % 256) 0 s.L < 0 ∧ s.L.length = 128) ∨ 1099511627776 < hasF (o.a % 256) s.L + o.b then (s, 0) else
  (⟨s.kind, withF (o.a % 256) (hasF (o.a % 256) s.L + o.b) false (withF (o.a / 256) (hasF (o.a / 256) s.L - o.b) false s.L), s.shut, s.eng⟩, 1)

/-- A ledger's step. -/
def ledgerS (s : St) (o : Opn) : St × Int :=
  if o.code = 9 then moveS s o else
  if o.code ≠ 7 ∧ o.code ≠ 8 then (s, 0) else
  if o.a < 0 ∨ 255 < o.a then (s, -1) else
  if o.code = 7 then (s, hadF o.a s.L) else
  if o.b < 0 then (s, -1) else
  if findF o.a 0 s.L < 0 ∧ s.L.length = 128 then (s, -2) else
  (⟨s.kind, withF o.a (cutZ (hasF o.a s.L + cutZ o.b)) false s.L, s.shut, s.eng⟩, cutZ (hasF o.a s.L + cutZ o.b))

/-- A state behind an operation, and what came of it. -/
def stepS (s : St) (o : Opn) : St × Int :=
  if ¬ MayS s then (s, 0) else
  if s.shut = true then (s, -1125899906842624) else
  if o.code = 10 then (⟨s.kind, s.L, true, if 0 ≤ o.a ∧ o.a ≤ 2 then o.a else s.eng⟩, 0) else
  if s.kind ≤ 1 then oneS s o else if s.kind ≤ 3 then listS s o else if s.kind = 4 then storeS s o else ledgerS s o

/-- A state behind operations, and what came of each. -/
def foldS : St → List Opn → St × List Int
  | s, [] => (s, [])
  | s, o :: r => ((foldS (stepS s o).1 r).1, (stepS s o).2 :: (foldS (stepS s o).1 r).2)

theorem foldS_snoc : ∀ (l : List Opn) (s : St) (o : Opn), foldS s (l ++ [o]) = ((stepS (foldS s l).1 o).1, (foldS s l).2 ++ [(stepS (foldS s l).1 o).2])
  | [], _, _ => rfl
  | p :: r, s, o => by
    rw [List.cons_append, foldS, foldS_snoc r (stepS s p).1 o, foldS]
    rfl

/-- Pairs as told, whose keys are above a number. -/
def Pairs (least : Int) : Int → List Int → Prop
  | lo, a :: b :: r => lo < a ∧ a ≤ 255 ∧ least ≤ b ∧ b ≤ 1099511627776 ∧ Pairs least a r
  | _, [] => True
  | _, [_] => False

/-- The pair at place k is as told, the keys being above a number. -/
def PairFrom (least lo : Int) (l : List Int) (k : Nat) : Prop :=
  (if k = 0 then lo else l.getD (k - 2) 0) < l.getD k 0 ∧ l.getD k 0 ≤ 255 ∧ least ≤ l.getD (k + 1) 0 ∧ l.getD (k + 1) 0 ≤ 1099511627776

theorem pairFrom_tail (least lo a b : Int) (r : List Int) (k : Nat) (hk : k % 2 = 0) : PairFrom least lo (a :: b :: r) (k + 2) ↔ PairFrom least a r k := by
  unfold PairFrom
  rw [if_neg (by omega)]
  by_cases h0 : k = 0
  · subst h0
    rw [if_pos rfl]
    exact Iff.rfl
  · rw [if_neg h0]
    obtain ⟨j, rfl⟩ : ∃ j, k = j + 2 := ⟨k - 2, by omega⟩
    exact Iff.rfl

theorem pairs_from (least : Int) : ∀ (l : List Int) (lo : Int), Pairs least lo l ↔ l.length % 2 = 0 ∧ ∀ k, k < l.length → k % 2 = 0 → PairFrom least lo l k
  | [], lo => by simp [Pairs]
  | [a], lo => by simp [Pairs]
  | a :: b :: r, lo => by
    have ih := pairs_from least r a
    unfold Pairs
    rw [ih]
    constructor
    · rintro ⟨h1, h2, h3, h4, h5, h6⟩
      refine ⟨by simp; omega, fun k hk hk2 => ?_⟩
      by_cases h0 : k = 0
      · subst h0
        exact ⟨by rw [if_pos rfl]; exact h1, h2, h3, h4⟩
      · obtain ⟨j, rfl⟩ : ∃ j, k = j + 2 := ⟨k - 2, by omega⟩
        rw [pairFrom_tail least lo a b r j (by omega)]
        exact h6 j (by simp at hk; omega) (by omega)
    · rintro ⟨h1, h2⟩
      have h0 := h2 0 (by simp) rfl
      unfold PairFrom at h0
      rw [if_pos rfl] at h0
      refine ⟨h0.1, h0.2.1, h0.2.2.1, h0.2.2.2, by simp at h1; omega, fun k hk hk2 => ?_⟩
      rw [← pairFrom_tail least lo a b r k hk2]
      exact h2 (k + 2) (by simp; omega) (by omega)

theorem pairs_above (least : Int) : ∀ (l : List Int) (lo : Int) (k : Nat), Pairs least lo l → k < l.length → k % 2 = 0 → lo < l.getD k 0
  | [], _, _, _, hk, _ => by simp at hk
  | [a], _, _, h, _, _ => by simp [Pairs] at h
  | a :: b :: r, lo, k, h, hk, hk2 => by
    unfold Pairs at h
    by_cases h0 : k = 0
    · subst h0
      exact h.1
    · obtain ⟨j, rfl⟩ : ∃ j, k = j + 2 := ⟨k - 2, by omega⟩
      have := pairs_above least r a j h.2.2.2.2 (by simp at hk; omega) (by omega)
      have e : (a :: b :: r).getD (j + 2) 0 = r.getD j 0 := rfl
      rw [e]
      have := h.1
      omega

theorem pairsOk_iff (least : Int) (l : List Int) : PairsOk least l ↔ l.length ≤ 128 ∧ Pairs least (-1) l := by
  constructor
  · rintro ⟨h1, h2, h3⟩
    refine ⟨h2, (pairs_from least l (-1)).2 ⟨h1, fun k hk hk2 => ?_⟩⟩
    obtain ⟨g1, g2, g3, g4, g5⟩ := h3 k hk hk2
    refine ⟨?_, g2, g4, g5⟩
    split
    · omega
    · exact g3 (by omega)
  · rintro ⟨h1, h2⟩
    have h3 := (pairs_from least l (-1)).1 h2
    refine ⟨h3.1, h1, fun k hk hk2 => ?_⟩
    obtain ⟨g1, g2, g3, g4⟩ := h3.2 k hk hk2
    have g5 := pairs_above least l (-1) k h2 hk hk2
    refine ⟨by omega, g2, fun h => ?_, g3, g4⟩
    rwa [if_neg (by omega)] at g1

theorem pairs_even {least : Int} {l : List Int} {lo : Int} (h : Pairs least lo l) : l.length % 2 = 0 := ((pairs_from least l lo).1 h).1

/-- What a key has. -/
def getP (key : Int) : List Int → Option Int
  | a :: b :: r => if a = key then some b else getP key r
  | _ => none

theorem getP_cons (key a b : Int) (r : List Int) : getP key (a :: b :: r) = if a = key then some b else getP key r := rfl

theorem findF_get (key : Int) : ∀ (l : List Int) (k : Nat), (findF key k l = -1 ∧ getP key l = none) ∨ (∃ j, findF key k l = ((k + j : Nat) : Int) ∧ j + 1 < l.length ∧ getP key l = some (l.getD (j + 1) 0) ∧ l.getD j 0 = key)
  | [], _ => .inl ⟨rfl, rfl⟩
  | [_], _ => .inl ⟨rfl, rfl⟩
  | a :: b :: r, k => by
    by_cases h : a = key
    · right
      refine ⟨0, by unfold findF; rw [if_pos h]; rfl, by simp, by unfold getP; rw [if_pos h]; rfl, h⟩
    · rcases findF_get key r (k + 2) with ⟨h1, h2⟩ | ⟨j, h1, h2, h3, h4⟩
      · left
        exact ⟨by unfold findF; rw [if_neg h]; exact h1, by unfold getP; rw [if_neg h]; exact h2⟩
      · right
        refine ⟨j + 2, ?_, by simp; omega, ?_, h4⟩
        · unfold findF
          rw [if_neg h, h1]
          congr 1
          omega
        · unfold getP
          rw [if_neg h, h3]
          rfl

theorem find_none (key : Int) (l : List Int) : findF key 0 l < 0 ↔ getP key l = none := by
  rcases findF_get key l 0 with ⟨h1, h2⟩ | ⟨j, h1, h2, h3, h4⟩
  · rw [h1, h2]
    simp
  · rw [h1, h3]
    simp

theorem had_get (key : Int) (l : List Int) : hadF key l = (getP key l).getD (-1) := by
  unfold hadF
  rcases findF_get key l 0 with ⟨h1, h2⟩ | ⟨j, h1, h2, h3, h4⟩
  · rw [h1, h2, if_neg (by omega)]
    rfl
  · rw [h1, h3, if_pos (by omega)]
    simp

theorem has_get (key : Int) (l : List Int) : hasF key l = (getP key l).getD 0 := by
  unfold hasF
  rcases findF_get key l 0 with ⟨h1, h2⟩ | ⟨j, h1, h2, h3, h4⟩
  · rw [h1, h2, if_neg (by omega)]
    rfl
  · rw [h1, h3, if_pos (by omega)]
    simp

theorem find_bound (key : Int) (l : List Int) : findF key 0 l < l.length := by
  rcases findF_get key l 0 with ⟨h1, _⟩ | ⟨j, h1, h2, _⟩
  · rw [h1]; omega
  · rw [h1]; omega

theorem find_bound1 (key : Int) (l : List Int) (h : 0 ≤ findF key 0 l) : findF key 0 l + 1 < l.length := by
  rcases findF_get key l 0 with ⟨h1, _⟩ | ⟨j, h1, h2, _⟩
  · omega
  · rw [h1]; omega

/-- A key that all keys are above has nothing. -/
theorem getP_above {least : Int} {key : Int} : ∀ {l : List Int} {lo : Int}, Pairs least lo l → key ≤ lo → getP key l = none
  | [], _, _, _ => rfl
  | [_], _, h, _ => by simp [Pairs] at h
  | a :: b :: r, lo, h, hk => by
    unfold Pairs at h
    unfold getP
    rw [if_neg (by omega)]
    exact getP_above h.2.2.2.2 (by omega)

theorem getP_in {least : Int} {key v : Int} : ∀ {l : List Int} {lo : Int}, Pairs least lo l → getP key l = some v → lo < key ∧ key ≤ 255 ∧ least ≤ v ∧ v ≤ 1099511627776
  | [], _, _, h => by simp [getP] at h
  | [_], _, h, _ => by simp [Pairs] at h
  | a :: b :: r, lo, h, hg => by
    unfold Pairs at h
    unfold getP at hg
    by_cases e : a = key
    · rw [if_pos e] at hg
      injection hg with hg
      omega
    · rw [if_neg e] at hg
      have := getP_in h.2.2.2.2 hg
      omega

/-- Pairs behind the place of a key stay. -/
theorem withF_done (key n least : Int) : ∀ (l : List Int) (lo : Int), Pairs least lo l → key ≤ lo → withF key n true l = l
  | [], _, _, _ => rfl
  | [_], _, h, _ => by simp [Pairs] at h
  | a :: b :: r, lo, h, hk => by
    unfold Pairs at h
    unfold withF
    rw [if_neg (by simp), if_pos (by omega), Bool.true_or, withF_done key n least r a h.2.2.2.2 (by omega)]
    rfl

theorem withF_cons (key n least a b : Int) (r : List Int) (lo : Int) (h : Pairs least lo (a :: b :: r)) :
    withF key n false (a :: b :: r) = if key < a then key :: n :: a :: b :: r else if key = a then key :: n :: r else a :: b :: withF key n false r := by
  unfold Pairs at h
  conv => lhs; unfold withF
  by_cases h1 : key < a
  · rw [if_pos h1, if_pos ⟨rfl, by omega⟩, if_pos (by omega), decide_eq_true (by omega), Bool.false_or, withF_done key n least r a h.2.2.2.2 (by omega)]
    rfl
  · rw [if_neg h1]
    by_cases h2 : key = a
    · rw [if_pos h2, if_pos ⟨rfl, by omega⟩, if_neg (by omega), decide_eq_true (by omega), Bool.false_or, withF_done key n least r a h.2.2.2.2 (by omega)]
      rfl
    · rw [if_neg h2, if_neg (by omega), if_pos (by omega), decide_eq_false (by omega), Bool.false_or]
      rfl

theorem withF_pairs (key n least : Int) (hn0 : least ≤ n) (hn1 : n ≤ 1099511627776) (hk : key ≤ 255) : ∀ (l : List Int) (lo : Int), Pairs least lo l → lo < key → Pairs least lo (withF key n false l)
  | [], lo, _, hlo => by
    simp [withF, Pairs]
    omega
  | [_], _, h, _ => by simp [Pairs] at h
  | a :: b :: r, lo, h, hlo => by
    have ih := withF_pairs key n least hn0 hn1 hk r a
    rw [withF_cons key n least a b r lo h]
    unfold Pairs at h
    split
    · unfold Pairs
      refine ⟨hlo, hk, hn0, hn1, ?_⟩
      unfold Pairs
      exact ⟨by assumption, h.2⟩
    · split
      · rename_i e
        subst e
        unfold Pairs
        exact ⟨hlo, hk, hn0, hn1, h.2.2.2.2⟩
      · unfold Pairs
        exact ⟨h.1, h.2.1, h.2.2.1, h.2.2.2.1, ih h.2.2.2.2 (by omega)⟩

theorem withF_len (key n least : Int) : ∀ (l : List Int) (lo : Int), Pairs least lo l → (withF key n false l).length = if getP key l = none then l.length + 2 else l.length
  | [], lo, _ => by simp [withF, getP]
  | [_], _, h => by simp [Pairs] at h
  | a :: b :: r, lo, h => by
    have ih := withF_len key n least r a
    rw [withF_cons key n least a b r lo h]
    unfold Pairs at h
    by_cases h1 : key < a
    · have e : getP key (a :: b :: r) = none := by rw [getP_cons, if_neg (by omega), getP_above h.2.2.2.2 (by omega)]
      rw [if_pos h1, if_pos e]
      simp
    · rw [if_neg h1]
      by_cases h2 : key = a
      · have e : getP key (a :: b :: r) ≠ none := by rw [getP_cons, if_pos h2.symm]; simp
        rw [if_pos h2, if_neg e]
        simp
      · have e : getP key (a :: b :: r) = getP key r := by rw [getP_cons, if_neg (by omega)]
        rw [if_neg h2, e]
        have := ih h.2.2.2.2
        simp only [List.length_cons, this]
        by_cases e2 : getP key r = none
        · rw [if_pos e2, if_pos e2]
        · rw [if_neg e2, if_neg e2]

theorem withF_get (key n least : Int) : ∀ (l : List Int) (lo : Int), Pairs least lo l → ∀ k, getP k (withF key n false l) = if k = key then some n else getP k l
  | [], lo, _, k => by
    simp [withF, getP, eq_comm]
  | [_], _, h, _ => by simp [Pairs] at h
  | a :: b :: r, lo, h, k => by
    have ih := withF_get key n least r a
    rw [withF_cons key n least a b r lo h]
    unfold Pairs at h
    by_cases h1 : key < a
    · rw [if_pos h1]
      by_cases e : k = key
      · subst e
        rw [if_pos rfl, getP, if_pos rfl]
      · rw [if_neg e, getP, if_neg (by omega)]
    · rw [if_neg h1]
      by_cases h2 : key = a
      · rw [if_pos h2]
        subst h2
        by_cases e : k = key
        · subst e
          rw [if_pos rfl, getP, if_pos rfl]
        · rw [if_neg e, getP, if_neg (by omega), getP, if_neg (by omega)]
      · rw [if_neg h2]
        by_cases e : k = key
        · subst e
          rw [if_pos rfl, getP, if_neg (by omega), ih h.2.2.2.2 k, if_pos rfl]
        · rw [if_neg e, getP]
          conv => rhs; rw [getP]
          rw [ih h.2.2.2.2 k, if_neg e]

theorem withoutF_cons (key a b : Int) (r : List Int) : withoutF key (a :: b :: r) = if a ≠ key then a :: b :: withoutF key r else withoutF key r := by
  rw [withoutF]
  split <;> rfl

theorem withoutF_pairs (key least : Int) : ∀ (l : List Int) (lo : Int), Pairs least lo l → Pairs least lo (withoutF key l)
  | [], _, _ => by simp [withoutF, Pairs]
  | [_], _, h => by simp [Pairs] at h
  | a :: b :: r, lo, h => by
    have ih := withoutF_pairs key least r
    rw [withoutF_cons]
    unfold Pairs at h
    split
    · unfold Pairs
      exact ⟨h.1, h.2.1, h.2.2.1, h.2.2.2.1, ih a h.2.2.2.2⟩
    · exact lower (ih a h.2.2.2.2) (by omega)
where
  lower {least lo lo' : Int} : ∀ {l : List Int}, Pairs least lo l → lo' ≤ lo → Pairs least lo' l
  | [], _, _ => trivial
  | [_], h, _ => by simp [Pairs] at h
  | a :: b :: r, h, hl => by
    unfold Pairs at h ⊢
    exact ⟨by omega, h.2⟩

theorem withoutF_length (key : Int) : ∀ (l : List Int), (withoutF key l).length ≤ l.length
  | [] => by simp [withoutF]
  | [_] => by simp [withoutF]
  | a :: b :: r => by
    have ih := withoutF_length key r
    rw [withoutF_cons]
    split <;> simp <;> omega

/-- The sum of what all keys have. -/
def sumP : List Int → Int
  | _ :: b :: r => b + sumP r
  | _ => 0

theorem withF_sum (key n least : Int) : ∀ (l : List Int) (lo : Int), Pairs least lo l → sumP (withF key n false l) = sumP l + n - (getP key l).getD 0
  | [], lo, _ => by simp [withF, getP, sumP]
  | [_], _, h => by simp [Pairs] at h
  | a :: b :: r, lo, h => by
    have ih := withF_sum key n least r a
    rw [withF_cons key n least a b r lo h]
    unfold Pairs at h
    by_cases h1 : key < a
    · rw [if_pos h1, getP, if_neg (by omega), getP_above h.2.2.2.2 (by omega)]
      simp [sumP]
      omega
    · rw [if_neg h1]
      by_cases h2 : key = a
      · rw [if_pos h2, getP, if_pos h2.symm]
        simp [sumP]
        omega
      · rw [if_neg h2, getP, if_neg (by omega), sumP, ih h.2.2.2.2]
        simp [sumP]
        omega

end Go.Proofs.Ytgmdhlchdjlgnaa
