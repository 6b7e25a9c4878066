/- Names and their files, as plain lists: one that is set, changes that wait, what a loss of power leaves. -/
import Derived.Test.YtfhgjnfichgdiaaBase0
namespace Go.Proofs.Ytfhgjnfichgdiaa

/-- A file: its bytes, and how many of them are kept. -/
structure Fl where
  b : List UInt8
  k : Nat

/-- A change of names. -/
inductive Ch where
  | give (n : Int) (f : Nat)
  | move (n to : Int) (f : Nat)
  | take (n : Int)

/-- Names, rising, each with the number of its file. -/
abbrev Dir := List (Int × Nat)

def RisingD (l : Dir) : Prop := l.Pairwise (fun p q => p.1 < q.1)
def Apart (l : Dir) : Prop := l.Pairwise (fun p q => p.2 ≠ q.2)

/-- The file that a name has. -/
def look : Dir → Int → Option Nat
  | [], _ => none
  | p :: l, n => if p.1 = n then some p.2 else look l n

/-- Names in which one has the file f (done: it is told already, or it has none). -/
def setG (n : Int) (f : Nat) : Bool → Dir → Dir
  | done, [] => if done then [] else [(n, f)]
  | done, p :: l => (if !done && decide (p.1 > n) then [(n, f)] else []) ++ ((if p.1 ≠ n then [p] else []) ++ setG n f (done || decide (p.1 > n)) l)

def setN (l : Dir) (n : Int) : Option Nat → Dir
  | some f => setG n f false l
  | none => setG n 0 true l

theorem mem_ite_one {α : Type} (c : Prop) [Decidable c] (x p : α) : p ∈ (if c then [x] else []) ↔ c ∧ p = x := by
  split <;> simp_all

theorem mem_setG (n : Int) (f : Nat) (p : Int × Nat) : ∀ (l : Dir) (done : Bool), p ∈ setG n f done l ↔ (p ∈ l ∧ p.1 ≠ n) ∨ (done = false ∧ p = (n, f))
  | [], done => by cases done <;> simp [setG]
  | q :: l, done => by
    rw [setG, List.mem_append, List.mem_append, mem_setG n f p l, mem_ite_one, mem_ite_one, List.mem_cons]
    cases done <;> grind

theorem mem_setN (l : Dir) (n : Int) (o : Option Nat) (p : Int × Nat) : p ∈ setN l n o ↔ (p ∈ l ∧ p.1 ≠ n) ∨ (p.1 = n ∧ o = some p.2) := by
  cases o with
  | none => rw [setN, mem_setG]; simp
  | some f =>
    rw [setN, mem_setG]
    constructor
    · rintro (h | ⟨_, h⟩)
      · exact .inl h
      · exact .inr (by rw [h]; exact ⟨rfl, rfl⟩)
    · rintro (h | ⟨h1, h2⟩)
      · exact .inl h
      · refine .inr ⟨rfl, ?_⟩
        obtain ⟨a, b⟩ := p
        simp only [Option.some.injEq] at h2
        simp only at h1
        rw [h1, h2]

theorem rising_setG (n : Int) (f : Nat) : ∀ (l : Dir) (done : Bool), RisingD l → (done = true → ∀ p ∈ l, p.1 > n) → RisingD (setG n f done l)
  | [], done, _, _ => by cases done <;> simp [setG, RisingD]
  | q :: l, done, h, hd => by
    unfold RisingD at h
    rw [List.pairwise_cons] at h
    rw [setG]
    unfold RisingD
    by_cases h1 : q.1 > n
    · have h2 : q.1 ≠ n := by omega
      have ih := rising_setG n f l true h.2 (fun _ p hp => by have := h.1 p hp; omega)
      have e : (done || decide (q.1 > n)) = true := by rw [decide_eq_true h1, Bool.or_true]
      rw [e, if_pos h2]
      have hc : (q :: setG n f true l).Pairwise (fun p q => p.1 < q.1) := by
        refine List.pairwise_cons.2 ⟨fun p hp => ?_, ih⟩
        rcases (mem_setG n f p l true).1 hp with ⟨hp, _⟩ | ⟨hp, _⟩
        · exact h.1 p hp
        · cases hp
      cases done
      · rw [if_pos (by simp [h1])]
        refine List.pairwise_cons.2 ⟨fun p hp => ?_, hc⟩
        rcases List.mem_cons.1 hp with rfl | hp
        · exact h1
        · rcases (mem_setG n f p l true).1 hp with ⟨hp, _⟩ | ⟨hp, _⟩
          · have := h.1 p hp; simp only; omega
          · cases hp
      · rw [if_neg (by simp)]
        exact hc
    · have e : (done || decide (q.1 > n)) = done := by rw [decide_eq_false h1, Bool.or_false]
      have hdn : done = false := by
        cases done
        · rfl
        · exact absurd (hd rfl q (List.mem_cons_self ..)) h1
      subst hdn
      rw [e, if_neg (by simp [h1])]
      have ih := rising_setG n f l false h.2 (fun hh => by cases hh)
      by_cases h2 : q.1 = n
      · rw [if_neg (by simp [h2])]
        exact ih
      · rw [if_pos h2]
        refine List.pairwise_cons.2 ⟨fun p hp => ?_, ih⟩
        rcases (mem_setG n f p l false).1 hp with ⟨hp, _⟩ | ⟨_, hp⟩
        · exact h.1 p hp
        · rw [hp]; simp only; omega

theorem setG_true (n : Int) (f : Nat) : ∀ l : Dir, setG n f true l = l.filter (fun p => decide (p.1 ≠ n))
  | [] => rfl
  | q :: l => by
    rw [setG, Bool.true_or, setG_true n f l, List.filter_cons]
    by_cases h : q.1 = n <;> simp [h]

theorem rising_setN {l : Dir} (h : RisingD l) (n : Int) (o : Option Nat) : RisingD (setN l n o) := by
  cases o with
  | none =>
    rw [setN, setG_true]
    exact h.sublist List.filter_sublist
  | some f => exact rising_setG n f l false h (fun hh => by cases hh)

theorem length_setG (n : Int) (f : Nat) : ∀ (l : Dir) (done : Bool), (setG n f done l).length ≤ l.length + (if done then 0 else 1)
  | [], done => by cases done <;> simp [setG]
  | q :: l, done => by
    have ih := length_setG n f l (done || decide (q.1 > n))
    rw [setG, List.length_append, List.length_append, List.length_cons]
    cases done <;> grind

theorem length_setN (l : Dir) (n : Int) (o : Option Nat) : (setN l n o).length ≤ l.length + 1 := by
  cases o with
  | none => have := length_setG n 0 l true; simp at this; rw [setN]; omega
  | some f => have := length_setG n f l false; simpa [setN] using this

theorem look_mem {l : Dir} (h : RisingD l) (n : Int) (f : Nat) : look l n = some f ↔ (n, f) ∈ l := by
  induction l with
  | nil => simp [look]
  | cons p l ih =>
    unfold RisingD at h
    rw [List.pairwise_cons] at h
    rw [look]
    by_cases e : p.1 = n
    · rw [if_pos e]
      constructor
      · intro hf
        have : p = (n, f) := by
          obtain ⟨a, b⟩ := p
          simp only [Option.some.injEq] at hf
          simp only at e
          rw [e, hf]
        rw [this]
        exact List.mem_cons_self ..
      · intro hm
        rcases List.mem_cons.1 hm with hm | hm
        · rw [← hm]
        · have := h.1 _ hm
          simp only at this
          omega
    · rw [if_neg e, ih h.2]
      constructor
      · exact fun hm => List.mem_cons_of_mem _ hm
      · intro hm
        rcases List.mem_cons.1 hm with hm | hm
        · exact absurd (by rw [← hm]) e
        · exact hm

theorem look_none {l : Dir} (n : Int) : look l n = none ↔ ∀ p ∈ l, p.1 ≠ n := by
  induction l with
  | nil => simp [look]
  | cons p l ih =>
    rw [look]
    by_cases e : p.1 = n
    · rw [if_pos e]
      constructor
      · intro h; cases h
      · intro h; exact absurd e (h p (List.mem_cons_self ..))
    · rw [if_neg e, ih]
      constructor
      · intro h q hq
        rcases List.mem_cons.1 hq with rfl | hq
        · exact e
        · exact h q hq
      · exact fun h q hq => h q (List.mem_cons_of_mem _ hq)

theorem look_setN {l : Dir} (h : RisingD l) (n : Int) (o : Option Nat) (m : Int) : look (setN l n o) m = if m = n then o else look l m := by
  have hs := rising_setN h n o
  apply Option.ext
  intro f
  rw [look_mem hs, mem_setN]
  by_cases e : m = n
  · rw [if_pos e]
    constructor
    · rintro (⟨_, h2⟩ | ⟨_, h2⟩)
      · exact absurd e h2
      · exact h2
    · exact fun h2 => .inr ⟨e, h2⟩
  · rw [if_neg e, look_mem h]
    constructor
    · rintro (⟨h1, _⟩ | ⟨h1, _⟩)
      · exact h1
      · exact absurd h1 e
    · exact fun h1 => .inl ⟨h1, e⟩

theorem rising_names {l : Dir} (h : RisingD l) : (l.map Prod.fst).Pairwise (· < ·) := by
  rw [List.pairwise_map]
  exact h

/-- Two lists that rise and have the same members are one. -/
theorem eq_of_rising : ∀ {a b : List Int}, a.Pairwise (· < ·) → b.Pairwise (· < ·) → (∀ x, x ∈ a ↔ x ∈ b) → a = b
  | [], [], _, _, _ => rfl
  | [], y :: b, _, _, h => by have := (h y).2 (List.mem_cons_self ..); cases this
  | x :: a, [], _, _, h => by have := (h x).1 (List.mem_cons_self ..); cases this
  | x :: a, y :: b, ha, hb, h => by
    rw [List.pairwise_cons] at ha hb
    have hxy : x = y := by
      rcases List.mem_cons.1 ((h x).1 (List.mem_cons_self ..)) with e | hx
      · exact e
      · rcases List.mem_cons.1 ((h y).2 (List.mem_cons_self ..)) with e | hy
        · exact e.symm
        · have := ha.1 y hy
          have := hb.1 x hx
          omega
    subst hxy
    rw [eq_of_rising ha.2 hb.2 fun z => ?_]
    constructor
    · intro hz
      rcases List.mem_cons.1 ((h z).1 (List.mem_cons_of_mem _ hz)) with e | hz'
      · have := ha.1 z hz; omega
      · exact hz'
    · intro hz
      rcases List.mem_cons.1 ((h z).2 (List.mem_cons_of_mem _ hz)) with e | hz'
      · have := hb.1 z hz; omega
      · exact hz'

theorem apart_setG (n : Int) (f : Nat) : ∀ (l : Dir) (done : Bool), Apart l → (done = false → ∀ p ∈ l, p.1 ≠ n → p.2 ≠ f) → Apart (setG n f done l)
  | [], done, _, _ => by cases done <;> simp [setG, Apart]
  | q :: l, done, h, hd => by
    unfold Apart at h
    rw [List.pairwise_cons] at h
    rw [setG]
    have ih := apart_setG n f l (done || decide (q.1 > n)) h.2 (fun e p hp hn => hd (by cases done <;> simp_all) p (List.mem_cons_of_mem _ hp) hn)
    have hc : ∀ hq : q.1 ≠ n, (q :: setG n f (done || decide (q.1 > n)) l).Pairwise (fun p q => p.2 ≠ q.2) := by
      intro hq
      refine List.pairwise_cons.2 ⟨fun p hp => ?_, ih⟩
      rcases (mem_setG n f p l _).1 hp with ⟨hp, _⟩ | ⟨hdn, hp⟩
      · exact h.1 p hp
      · rw [hp]
        exact hd (by cases done <;> simp_all) q (List.mem_cons_self ..) hq
    unfold Apart
    by_cases hq : q.1 = n
    · rw [if_neg (by simp [hq]), if_neg (by simp [hq])]
      exact ih
    · rw [if_pos hq]
      by_cases hcond : (!done && decide (q.1 > n)) = true
      · rw [if_pos hcond]
        simp only [Bool.and_eq_true, Bool.not_eq_true', decide_eq_true_eq] at hcond
        refine List.pairwise_cons.2 ⟨fun p hp => ?_, hc hq⟩
        rcases List.mem_cons.1 hp with rfl | hp
        · exact fun e => hd hcond.1 p (List.mem_cons_self ..) hq e.symm
        · rcases (mem_setG n f p l _).1 hp with ⟨hp, hpn⟩ | ⟨hdn, _⟩
          · exact fun e => hd hcond.1 p (List.mem_cons_of_mem _ hp) hpn e.symm
          · rw [decide_eq_true hcond.2] at hdn
            simp at hdn
      · rw [if_neg hcond]
        exact hc hq

theorem apart_setN {l : Dir} (h : Apart l) (n : Int) (f : Nat) (hf : ∀ p ∈ l, p.1 ≠ n → p.2 ≠ f) : Apart (setN l n (some f)) :=
  apart_setG n f l false h fun _ => hf

theorem apart_delN {l : Dir} (h : Apart l) (n : Int) : Apart (setN l n none) := by
  rw [setN, setG_true]
  exact h.sublist List.filter_sublist

/-- Names behind a change. -/
def chD (l : Dir) : Ch → Dir
  | .give n f => setN l n (some f)
  | .move n to f => setN (setN l n none) to (some f)
  | .take n => setN l n none

theorem rising_chD {l : Dir} (h : RisingD l) (c : Ch) : RisingD (chD l c) := by
  cases c with
  | give n f => rw [chD]; exact rising_setN h _ _
  | move n to f => rw [chD]; exact rising_setN (rising_setN h _ _) _ _
  | take n => rw [chD]; exact rising_setN h _ _

theorem length_chD (l : Dir) (c : Ch) : (chD l c).length ≤ l.length + 1 := by
  cases c with
  | give n f => rw [chD]; exact length_setN _ _ _
  | move n to f =>
    have h1 := length_setN (setN l n none) to (some f)
    have h2 : (setN l n none).length ≤ l.length := by rw [setN, setG_true]; exact List.length_filter_le _ _
    rw [chD]; omega
  | take n => rw [chD]; exact length_setN _ _ _

/-- What a change makes of a directory, as a function. -/
def chF (f : Int → Option Nat) : Ch → Int → Option Nat
  | .give n x => fun m => if m = n then some x else f m
  | .move n to x => fun m => if m = n then none else if m = to then some x else f m
  | .take n => fun m => if m = n then none else f m

theorem look_chD {l : Dir} (h : RisingD l) (c : Ch) (hc : ∀ n to f, c = .move n to f → n ≠ to) (m : Int) : look (chD l c) m = chF (look l) c m := by
  cases c with
  | give n f => rw [chD]; exact look_setN h _ _ _
  | move n to f =>
    have hne := hc n to f rfl
    rw [chD, look_setN (rising_setN h _ _), look_setN h]
    show _ = (if m = n then none else if m = to then some f else look l m)
    grind
  | take n => rw [chD]; exact look_setN h _ _ _

/-- How many of all are kept, of which any number may be asked for. -/
def shareN (a : Int) (all : Nat) : Nat := if a < 0 then 0 else (a % ((all : Int) + 1)).toNat

theorem shareN_le (a : Int) (all : Nat) : shareN a all ≤ all := by
  unfold shareN
  split
  · omega
  · have := Int.emod_lt_of_pos a (show (0 : Int) < (all : Int) + 1 by omega)
    omega

/-- What is asked for at i. -/
def pickK (keep : List Int) (i : Nat) : Int := if keep.length = 0 then 0 else keep.getD (i % keep.length) 0

/-- A file behind a loss of power. -/
def cutF (x : Fl) (a : Int) : Fl := ⟨x.b.take (x.k + shareN a (x.b.length - x.k)), x.k + shareN a (x.b.length - x.k)⟩

def fl (fs : List Fl) (f : Nat) : Fl := fs.getD f ⟨[], 0⟩

/-- Files behind a loss of power, name by name. -/
def crashF (keep : List Int) : Dir → Nat → List Fl → List Fl
  | [], _, fs => fs
  | p :: l, i, fs => crashF keep l (i + 1) (fs.set p.2 (cutF (fl fs p.2) (pickK keep i)))

theorem crashF_length (keep : List Int) : ∀ (l : Dir) (i : Nat) (fs : List Fl), (crashF keep l i fs).length = fs.length
  | [], _, _ => rfl
  | p :: l, i, fs => by rw [crashF, crashF_length keep l, List.length_set]

theorem crashF_snoc (keep : List Int) : ∀ (l : Dir) (p : Int × Nat) (i : Nat) (fs : List Fl), crashF keep (l ++ [p]) i fs = (crashF keep l i fs).set p.2 (cutF (fl (crashF keep l i fs) p.2) (pickK keep (i + l.length)))
  | [], p, i, fs => by simp [crashF]
  | q :: l, p, i, fs => by
    rw [List.cons_append, crashF, crashF, crashF_snoc keep l p (i + 1)]
    rw [List.length_cons, show i + 1 + l.length = i + (l.length + 1) by omega]

theorem fl_set_same {fs : List Fl} {f : Nat} (h : f < fs.length) (x : Fl) : fl (fs.set f x) f = x := by
  unfold fl
  simp [List.getD, h]

theorem fl_set_other {fs : List Fl} {f g : Nat} (h : f ≠ g) (x : Fl) : fl (fs.set f x) g = fl fs g := by
  unfold fl
  simp [List.getD, h]

/-- What no name has stays. -/
theorem crashF_other (keep : List Int) : ∀ (l : Dir) (i : Nat) (fs : List Fl) (g : Nat), (∀ p ∈ l, p.2 ≠ g) → fl (crashF keep l i fs) g = fl fs g
  | [], _, _, _, _ => rfl
  | p :: l, i, fs, g, h => by
    rw [crashF, crashF_other keep l (i + 1) _ g fun q hq => h q (List.mem_cons_of_mem _ hq), fl_set_other (h p (List.mem_cons_self ..))]

end Go.Proofs.Ytfhgjnfichgdiaa
