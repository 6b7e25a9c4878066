/- Objects: the mathematics of layer objs: what its promises say, over plain lists of numbers. -/
import Derived.Test.YtgmdhlchdjlgnaaIntBase
namespace Go.Proofs.Ytgmdhlchdjlgnaa

/-- A number, cut. -/
def cutZ (n : Int) : Int := if n < -1099511627776 then -1099511627776 else if 1099511627776 < n then 1099511627776 else n

theorem cutZ_in (n : Int) : -1099511627776 ≤ cutZ n ∧ cutZ n ≤ 1099511627776 := by
  unfold cutZ
  split
  · omega
  · split <;> omega

theorem cutZ_same {n : Int} (h0 : -1099511627776 ≤ n) (h1 : n ≤ 1099511627776) : cutZ n = n := by
  unfold cutZ
  rw [if_neg (by omega), if_neg (by omega)]

theorem cutZ_eq (n : Int) : n = cutZ n ↔ -1099511627776 ≤ n ∧ n ≤ 1099511627776 := by
  constructor
  · intro h
    rw [h]
    exact cutZ_in n
  · intro h
    rw [cutZ_same h.1 h.2]

/-- An object's state. -/
structure St where
  kind : Int
  L : List Int
  shut : Bool
  eng : Int

/-- An operation. -/
structure Opn where
  code : Int
  a : Int
  b : Int

/-- The pair at place k is as told. -/
def PairAt (least : Int) (l : List Int) (k : Nat) : Prop :=
  0 ≤ l.getD k 0 ∧ l.getD k 0 ≤ 255 ∧ (0 < k → l.getD (k - 2) 0 < l.getD k 0) ∧ least ≤ l.getD (k + 1) 0 ∧ l.getD (k + 1) 0 ≤ 1099511627776

instance (least : Int) (l : List Int) (k : Nat) : Decidable (PairAt least l k) := by unfold PairAt; infer_instance

/-- Numbers are pairs as told. -/
def PairsOk (least : Int) (l : List Int) : Prop := l.length % 2 = 0 ∧ l.length ≤ 128 ∧ ∀ k, k < l.length → k % 2 = 0 → PairAt least l k

instance (least : Int) (l : List Int) : Decidable (PairsOk least l) := by unfold PairsOk; infer_instance

/-- Numbers are within the bounds. -/
def InBounds (l : List Int) : Prop := ∀ j, j < l.length → -1099511627776 ≤ l.getD j 0 ∧ l.getD j 0 ≤ 1099511627776

instance (l : List Int) : Decidable (InBounds l) := by unfold InBounds; infer_instance

/-- The numbers of a kind are as told. -/
def NumsOk (kind : Int) (l : List Int) : Prop :=
  if kind = 4 then PairsOk (-1099511627776) l else if kind = 5 then PairsOk 0 l else l.length ≤ 64 ∧ (kind ≤ 1 → l.length = 1) ∧ InBounds l

instance (kind : Int) (l : List Int) : Decidable (NumsOk kind l) := by unfold NumsOk; infer_instance

/-- A state may be. -/
def MayS (s : St) : Prop := 0 ≤ s.eng ∧ s.eng ≤ 2 ∧ (s.shut = false → s.eng = 0) ∧ 0 ≤ s.kind ∧ s.kind < 6 ∧ NumsOk s.kind s.L

instance (s : St) : Decidable (MayS s) := by unfold MayS; infer_instance

/-- An operation may be told. -/
def FitsO (o : Opn) : Prop := 0 ≤ o.code ∧ o.code ≤ 10 ∧ -1099511627776 ≤ o.a ∧ o.a ≤ 1099511627776 ∧ -1099511627776 ≤ o.b ∧ o.b ≤ 1099511627776

instance (o : Opn) : Decidable (FitsO o) := by unfold FitsO; infer_instance

/-- How an object begins. -/
def startS (kind : Int) : St := if kind < 0 ∨ 6 ≤ kind then ⟨0, [], false, 0⟩ else ⟨kind, if kind ≤ 1 then [0] else [], false, 0⟩

/-- The place of a key's pair, counted from k on; -1: there is none. -/
def findF (key : Int) : Nat → List Int → Int
  | k, a :: _ :: r => if a = key then (k : Int) else findF key (k + 2) r
  | _, _ => -1

/-- Pairs in which a key has a number. -/
def withF (key n : Int) : Bool → List Int → List Int
  | done, a :: b :: r => (if done = false ∧ key ≤ a then [key, n] else []) ++ ((if a ≠ key then [a, b] else []) ++ withF key n (done || decide (key ≤ a)) r)
  | done, _ => if done then [] else [key, n]

/-- Pairs without a key's. -/
def withoutF (key : Int) : List Int → List Int
  | a :: b :: r => (if a ≠ key then [a, b] else []) ++ withoutF key r
  | _ => []

theorem drop_pair (l : List Int) (k : Nat) (h : k + 1 < l.length) : l.drop k = l.getD k 0 :: l.getD (k + 1) 0 :: l.drop (k + 2) := by
  rw [List.drop_eq_getElem_cons (show k < l.length by omega), List.drop_eq_getElem_cons h]
  simp [List.getD, h, show k < l.length by omega]

theorem withF_length (key n : Int) : ∀ (l : List Int) (done : Bool), (withF key n done l).length ≤ l.length + 2
  | [], done => by unfold withF; split <;> simp
  | [a], done => by unfold withF; split <;> simp
  | a :: b :: r, done => by
    have ih := withF_length key n r (done || decide (key ≤ a))
    unfold withF
    have h1 : (if done = false ∧ key ≤ a then [key, n] else ([] : List Int)).length + (withF key n (done || decide (key ≤ a)) r).length ≤ r.length + 2 := by
      by_cases h : done = false ∧ key ≤ a
      · rw [if_pos h]
        have e : (done || decide (key ≤ a)) = true := by simp [h.2]
        rw [e]
        have h2 := withF_true key n r
        simp
        omega
      · rw [if_neg h]
        simpa using ih
    have h2 : (if a ≠ key then [a, b] else ([] : List Int)).length ≤ 2 := by split <;> simp
    simp only [List.length_append, List.length_cons]
    omega
where
  withF_true (key n : Int) : ∀ (l : List Int), (withF key n true l).length ≤ l.length
  | [] => by simp [withF]
  | [a] => by simp [withF]
  | a :: b :: r => by
    have ih := withF_true key n r
    unfold withF
    simp only [Bool.true_or]
    split <;> split <;> simp_all <;> omega

end Go.Proofs.Ytgmdhlchdjlgnaa
