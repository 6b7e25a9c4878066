import Derived.Test.YtpopbandpnaicaaGreatDoorRows
import Derived.WalkKit
import Derived.ProofKit
import Derived.Deep.Draws
import Derived.Lib.VarintMem
import Derived.Lib.Zigzag
import Derived.Lib.Endian
import Derived.Lib.VarintBits
import Derived.ChangeSlices
import Derived.Deep.QuietTactic
import Derived.BigQuiet
import Derived.Deep.DeepCutAuto
import Derived.Laws.ResultCell
import Derived.Laws.NewDeep
import Derived.Deep.RegionHeld
import Derived.Maps.AppendAt
namespace Go.Proofs.YtpopbandpnaicaaGreatDoor
open Go.RowKit

theorem below_drewN {B : Nat} {a w : World} (h : Below B a w) (n : Nat) : Below B a (w.drewN n) := ⟨h.os, h.tape, h.output, h.size, h.block⟩

structure Fl where
 b : List UInt8
 k : Nat

inductive Ch where
 | give (n : Int) (f : Nat)
 | move (n tz : Int) (f : Nat)
 | take (n : Int)

abbrev Dir := List (Int × Nat)

def RisingD (l : Dir) : Prop := l.Pairwise (fun p q => p.1 < q.1)
def Apart (l : Dir) : Prop := l.Pairwise (fun p q => p.2 ≠ q.2)

def look : Dir -> Int -> Option Nat
 | [], _ => none
 | p :: l, n => if p.1 = n then some p.2 else look l n

def setG (n : Int) (f : Nat) : Bool -> Dir -> Dir
 | done, [] => if done then [] else [(n, f)]
 | done, p :: l => (if !done && decide (p.1 > n) then [(n, f)] else []) ++ ((if p.1 ≠ n then [p] else []) ++ setG n f (done || decide (p.1 > n)) l)

def setN (l : Dir) (n : Int) : Option Nat -> Dir
 | some f => setG n f false l
 | none => setG n 0 true l

theorem mem_ite_one {α : Type} (c : Prop) [Decidable c] (x p : α) : p ∈ (if c then [x] else []) ↔ c ∧ p = x := by
 split <;> simp_all

theorem mem_setG (n : Int) (f : Nat) (p : Int × Nat) : ∀ (l : Dir) (done : Bool), p ∈ setG n f done l ↔ (p ∈ l ∧ p.1 ≠ n) ∨ (done = false ∧ p = (n, f))
 | [], done => by cases done <;> simp [setG]
 | q :: l, done => by
   rw [setG, List.mem_append, List.mem_append, mem_setG n f p l, mem_ite_one, mem_ite_one, List.mem_cons]
   cases done <;> grind

theorem mem_setN (l : Dir) (n : Int) (o : Option Nat) (p : Int × Nat) : p ∈ setN l n o ↔ (p ∈ l ∧ p.1 ≠ n) ∨ (p.1 = n ∧ o = some p.2) := by
 cases o with
 | none => rw [setN, mem_setG]; simp
 | some f =>
   rw [setN, mem_setG]
   constructor
   · rintro (h | ⟨_, h⟩)
     · exact .inl h
     · exact .inr (by rw [h]; exact ⟨rfl, rfl⟩)
   · rintro (h | ⟨h1, h2⟩)
     · exact .inl h
     · refine .inr ⟨rfl, ?_⟩
       obtain ⟨a, b⟩ := p
       simp only [Option.some.injEq] at h2
       simp only at h1
       rw [h1, h2]

theorem rising_setG (n : Int) (f : Nat) : ∀ (l : Dir) (done : Bool), RisingD l -> (done = true -> ∀ p ∈ l, p.1 > n) -> RisingD (setG n f done l)
 | [], done, _, _ => by cases done <;> simp [setG, RisingD]
 | q :: l, done, h, hd => by
   unfold RisingD at h
   rw [List.pairwise_cons] at h
   rw [setG]
   unfold RisingD
   by_cases h1 : q.1 > n
   · have h2 : q.1 ≠ n := by omega
     have ih := rising_setG n f l true h.2 (fun _ p hp => by have := h.1 p hp; omega)
     have e : (done || decide (q.1 > n)) = true := by rw [decide_eq_true h1, Bool.or_true]
     rw [e, if_pos h2]
     have hc : (q :: setG n f true l).Pairwise (fun p q => p.1 < q.1) := by
       refine List.pairwise_cons.2 ⟨fun p hp => ?_, ih⟩
       rcases (mem_setG n f p l true).1 hp with ⟨hp, _⟩ | ⟨hp, _⟩
       · exact h.1 p hp
       · cases hp
     cases done
     · rw [if_pos (by simp [h1])]
       refine List.pairwise_cons.2 ⟨fun p hp => ?_, hc⟩
       rcases List.mem_cons.1 hp with rfl | hp
       · exact h1
       · rcases (mem_setG n f p l true).1 hp with ⟨hp, _⟩ | ⟨hp, _⟩
         · have := h.1 p hp; simp only; omega
         · cases hp
     · rw [if_neg (by simp)]
       exact hc
   · have e : (done || decide (q.1 > n)) = done := by rw [decide_eq_false h1, Bool.or_false]
     have hdn : done = false := by
       cases done
       · rfl
       · exact absurd (hd rfl q (List.mem_cons_self ..)) h1
     subst hdn
     rw [e, if_neg (by simp [h1])]
     have ih := rising_setG n f l false h.2 (fun hh => by cases hh)
     by_cases h2 : q.1 = n
     · rw [if_neg (by simp [h2])]
       exact ih
     · rw [if_pos h2]
       refine List.pairwise_cons.2 ⟨fun p hp => ?_, ih⟩
       rcases (mem_setG n f p l false).1 hp with ⟨hp, _⟩ | ⟨_, hp⟩
       · exact h.1 p hp
       · rw [hp]; simp only; omega

theorem setG_true (n : Int) (f : Nat) : ∀ l : Dir, setG n f true l = l.filter (fun p => decide (p.1 ≠ n))
 | [] => rfl
 | q :: l => by
   rw [setG, Bool.true_or, setG_true n f l, List.filter_cons]
   by_cases h : q.1 = n <;> simp [h]

theorem rising_setN {l : Dir} (h : RisingD l) (n : Int) (o : Option Nat) : RisingD (setN l n o) := by
 cases o with
 | none =>
   rw [setN, setG_true]
   exact h.sublist List.filter_sublist
 | some f => exact rising_setG n f l false h (fun hh => by cases hh)

theorem length_setG (n : Int) (f : Nat) : ∀ (l : Dir) (done : Bool), (setG n f done l).length <= l.length + (if done then 0 else 1)
 | [], done => by cases done <;> simp [setG]
 | q :: l, done => by
   have ih := length_setG n f l (done || decide (q.1 > n))
   rw [setG, List.length_append, List.length_append, List.length_cons]
   cases done <;> grind

theorem length_setN (l : Dir) (n : Int) (o : Option Nat) : (setN l n o).length <= l.length + 1 := by
 cases o with
 | none => have := length_setG n 0 l true; simp at this; rw [setN]; omega
 | some f => have := length_setG n f l false; simpa [setN] using this

theorem look_mem {l : Dir} (h : RisingD l) (n : Int) (f : Nat) : look l n = some f ↔ (n, f) ∈ l := by
 induction l with
 | nil => simp [look]
 | cons p l ih =>
   unfold RisingD at h
   rw [List.pairwise_cons] at h
   rw [look]
   by_cases e : p.1 = n
   · rw [if_pos e]
     constructor
     · intro hf
       have : p = (n, f) := by
         obtain ⟨a, b⟩ := p
         simp only [Option.some.injEq] at hf
         simp only at e
         rw [e, hf]
       rw [this]
       exact List.mem_cons_self ..
     · intro hm
       rcases List.mem_cons.1 hm with hm | hm
       · rw [<- hm]
       · have := h.1 _ hm
         simp only at this
         omega
   · rw [if_neg e, ih h.2]
     constructor
     · exact fun hm => List.mem_cons_of_mem _ hm
     · intro hm
       rcases List.mem_cons.1 hm with hm | hm
       · exact absurd (by rw [<- hm]) e
       · exact hm

theorem look_setN {l : Dir} (h : RisingD l) (n : Int) (o : Option Nat) (m : Int) : look (setN l n o) m = if m = n then o else look l m := by
 have hs := rising_setN h n o
 apply Option.ext
 intro f
 rw [look_mem hs, mem_setN]
 by_cases e : m = n
 · rw [if_pos e]
   constructor
   · rintro (⟨_, h2⟩ | ⟨_, h2⟩)
     · exact absurd e h2
     · exact h2
   · exact fun h2 => .inr ⟨e, h2⟩
 · rw [if_neg e, look_mem h]
   constructor
   · rintro (⟨h1, _⟩ | ⟨h1, _⟩)
     · exact h1
     · exact absurd h1 e
   · exact fun h1 => .inl ⟨h1, e⟩

theorem rising_names {l : Dir} (h : RisingD l) : (l.map Prod.fst).Pairwise (· < ·) := by
 rw [List.pairwise_map]
 exact h

theorem eq_of_rising : ∀ {a b : List Int}, a.Pairwise (· < ·) -> b.Pairwise (· < ·) -> (∀ x, x ∈ a ↔ x ∈ b) -> a = b
 | [], [], _, _, _ => rfl
 | [], y :: b, _, _, h => by have := (h y).2 (List.mem_cons_self ..); cases this
 | x :: a, [], _, _, h => by have := (h x).1 (List.mem_cons_self ..); cases this
 | x :: a, y :: b, ha, hb, h => by
   rw [List.pairwise_cons] at ha hb
   have hxy : x = y := by
     rcases List.mem_cons.1 ((h x).1 (List.mem_cons_self ..)) with e | hx
     · exact e
     · rcases List.mem_cons.1 ((h y).2 (List.mem_cons_self ..)) with e | hy
       · exact e.symm
       · have := ha.1 y hy
         have := hb.1 x hx
         omega
   subst hxy
   rw [eq_of_rising ha.2 hb.2 fun z => ?_]
   constructor
   · intro hz
     rcases List.mem_cons.1 ((h z).1 (List.mem_cons_of_mem _ hz)) with e | hz'
     · have := ha.1 z hz; omega
     · exact hz'
   · intro hz
     rcases List.mem_cons.1 ((h z).2 (List.mem_cons_of_mem _ hz)) with e | hz'
     · have := hb.1 z hz; omega
     · exact hz'

theorem apart_setG (n : Int) (f : Nat) : ∀ (l : Dir) (done : Bool), Apart l -> (done = false -> ∀ p ∈ l, p.1 ≠ n -> p.2 ≠ f) -> Apart (setG n f done l)
 | [], done, _, _ => by cases done <;> simp [setG, Apart]
 | q :: l, done, h, hd => by
   unfold Apart at h
   rw [List.pairwise_cons] at h
   rw [setG]
   have ih := apart_setG n f l (done || decide (q.1 > n)) h.2 (fun e p hp hn => hd (by cases done <;> simp_all) p (List.mem_cons_of_mem _ hp) hn)
   have hc : ∀ hq : q.1 ≠ n, (q :: setG n f (done || decide (q.1 > n)) l).Pairwise (fun p q => p.2 ≠ q.2) := by
     intro hq
     refine List.pairwise_cons.2 ⟨fun p hp => ?_, ih⟩
     rcases (mem_setG n f p l _).1 hp with ⟨hp, _⟩ | ⟨hdn, hp⟩
     · exact h.1 p hp
     · rw [hp]
       exact hd (by cases done <;> simp_all) q (List.mem_cons_self ..) hq
   unfold Apart
   by_cases hq : q.1 = n
   · rw [if_neg (by simp [hq]), if_neg (by simp [hq])]
     exact ih
   · rw [if_pos hq]
     by_cases hcond : (!done && decide (q.1 > n)) = true
     · rw [if_pos hcond]
       simp only [Bool.and_eq_true, Bool.not_eq_true', decide_eq_true_eq] at hcond
       refine List.pairwise_cons.2 ⟨fun p hp => ?_, hc hq⟩
       rcases List.mem_cons.1 hp with rfl | hp
       · exact fun e => hd hcond.1 p (List.mem_cons_self ..) hq e.symm
       · rcases (mem_setG n f p l _).1 hp with ⟨hp, hpn⟩ | ⟨hdn, _⟩
         · exact fun e => hd hcond.1 p (List.mem_cons_of_mem _ hp) hpn e.symm
         · rw [decide_eq_true hcond.2] at hdn
           simp at hdn
     · rw [if_neg hcond]
       exact hc hq

theorem apart_setN {l : Dir} (h : Apart l) (n : Int) (f : Nat) (hf : ∀ p ∈ l, p.1 ≠ n -> p.2 ≠ f) : Apart (setN l n (some f)) :=
 apart_setG n f l false h fun _ => hf

def chD (l : Dir) : Ch -> Dir
 | .give n f => setN l n (some f)
 | .move n tz f => setN (setN l n none) tz (some f)
 | .take n => setN l n none

theorem rising_chD {l : Dir} (h : RisingD l) (c : Ch) : RisingD (chD l c) := by
 cases c with
 | give n f => rw [chD]; exact rising_setN h _ _
 | move n tz f => rw [chD]; exact rising_setN (rising_setN h _ _) _ _
 | take n => rw [chD]; exact rising_setN h _ _

theorem length_chD (l : Dir) (c : Ch) : (chD l c).length <= l.length + 1 := by
 cases c with
 | give n f => rw [chD]; exact length_setN _ _ _
 | move n tz f =>
   have h1 := length_setN (setN l n none) tz (some f)
   have h2 : (setN l n none).length <= l.length := by rw [setN, setG_true]; exact List.length_filter_le _ _
   rw [chD]; omega
 | take n => rw [chD]; exact length_setN _ _ _

def chF (f : Int -> Option Nat) : Ch -> Int -> Option Nat
 | .give n x => fun m => if m = n then some x else f m
 | .move n tz x => fun m => if m = n then none else if m = tz then some x else f m
 | .take n => fun m => if m = n then none else f m

theorem look_chD {l : Dir} (h : RisingD l) (c : Ch) (hc : ∀ n tz f, c = .move n tz f -> n ≠ tz) (m : Int) : look (chD l c) m = chF (look l) c m := by
 cases c with
 | give n f => rw [chD]; exact look_setN h _ _ _
 | move n tz f =>
   have hne := hc n tz f rfl
   rw [chD, look_setN (rising_setN h _ _), look_setN h]
   show _ = (if m = n then none else if m = tz then some f else look l m)
   grind
 | take n => rw [chD]; exact look_setN h _ _ _

def shareN (a : Int) (all : Nat) : Nat := if a < 0 then 0 else (a % ((all : Int) + 1)).toNat

theorem shareN_le (a : Int) (all : Nat) : shareN a all <= all := by
 unfold shareN
 split
 · omega
 · have := Int.emod_lt_of_pos a (show (0 : Int) < (all : Int) + 1 by omega)
   omega

def pickK (keep : List Int) (i : Nat) : Int := if keep.length = 0 then 0 else keep.getD (i % keep.length) 0

def cutF (x : Fl) (a : Int) : Fl := ⟨x.b.take (x.k + shareN a (x.b.length - x.k)), x.k + shareN a (x.b.length - x.k)⟩

def fl (fs : List Fl) (f : Nat) : Fl := fs.getD f ⟨[], 0⟩

def crashF (keep : List Int) : Dir -> Nat -> List Fl -> List Fl
 | [], _, fs => fs
 | p :: l, i, fs => crashF keep l (i + 1) (fs.set p.2 (cutF (fl fs p.2) (pickK keep i)))

theorem crashF_length (keep : List Int) : ∀ (l : Dir) (i : Nat) (fs : List Fl), (crashF keep l i fs).length = fs.length
 | [], _, _ => rfl
 | p :: l, i, fs => by rw [crashF, crashF_length keep l, List.length_set]

theorem crashF_snoc (keep : List Int) : ∀ (l : Dir) (p : Int × Nat) (i : Nat) (fs : List Fl), crashF keep (l ++ [p]) i fs = (crashF keep l i fs).set p.2 (cutF (fl (crashF keep l i fs) p.2) (pickK keep (i + l.length)))
 | [], p, i, fs => by simp [crashF]
 | q :: l, p, i, fs => by
   rw [List.cons_append, crashF, crashF, crashF_snoc keep l p (i + 1)]
   rw [List.length_cons, show i + 1 + l.length = i + (l.length + 1) by omega]

theorem fl_set_same {fs : List Fl} {f : Nat} (h : f < fs.length) (x : Fl) : fl (fs.set f x) f = x := by
 unfold fl
 simp [List.getD, h]

theorem fl_set_other {fs : List Fl} {f g : Nat} (h : f ≠ g) (x : Fl) : fl (fs.set f x) g = fl fs g := by
 unfold fl
 simp [List.getD, h]

theorem crashF_other (keep : List Int) : ∀ (l : Dir) (i : Nat) (fs : List Fl) (g : Nat), (∀ p ∈ l, p.2 ≠ g) -> fl (crashF keep l i fs) g = fl fs g
 | [], _, _, _, _ => rfl
 | p :: l, i, fs, g, h => by
   rw [crashF, crashF_other keep l (i + 1) _ g fun q hq => h q (List.mem_cons_of_mem _ hq), fl_set_other (h p (List.mem_cons_self ..))]

structure Dk where
 room : Int
 files : List Fl
 kept : Dir
 waits : List Ch
 power : Int

def dirK (d : Dk) (k : Nat) : Dir := (d.waits.take k).foldl chD d.kept
def dirD (d : Dk) : Dir := d.waits.foldl chD d.kept

def sumB (fs : List Fl) (l : Dir) : Nat := (l.map fun p => (fl fs p.2).b.length).sum
def usedD (d : Dk) : Nat := sumB d.files (dirD d)
def totF (fs : List Fl) : Nat := (fs.map fun x => x.b.length).sum

def tickD (p : Int) : Int := if p > 0 then p - 1 else p

def mayN (n : Int) : Bool := decide (0 <= n) && decide (n < 1048576)

def newD (room : Int) : Dk := ⟨room, [], [], [], -1⟩

def freshD (d : Dk) (n : Int) : Dk := { d with files := d.files ++ [⟨[], 0⟩], waits := d.waits ++ [.give n d.files.length] }

def growF (fs : List Fl) (f : Nat) (b : List UInt8) : List Fl := fs.set f ⟨(fl fs f).b ++ b, (fl fs f).k⟩

def appendTo (d : Dk) (f : Nat) (b : List UInt8) : Dk := { d with files := growF d.files f b, power := tickD d.power }

def appendD (d : Dk) (n : Int) (b : List UInt8) : Dk × Int :=
 if d.power = 0 then (d, 11) else if mayN n = false then (d, 1) else if (usedD d : Int) + b.length > d.room then (d, 10) else
 match look (dirD d) n with
 | some f => (appendTo d f b, 0)
 | none => (appendTo (freshD d n) d.files.length b, 0)

def readD (d : Dk) (n : Int) : List UInt8 × Int :=
 if d.power = 0 then ([], 11) else
 match look (dirD d) n with
 | some f => ((fl d.files f).b, 0)
 | none => ([], 8)

def keepF (fs : List Fl) (f : Nat) : List Fl := fs.set f ⟨(fl fs f).b, (fl fs f).b.length⟩

def syncD (d : Dk) (n : Int) : Dk × Int :=
 if d.power = 0 then (d, 11) else
 match look (dirD d) n with
 | some f => ({ d with files := keepF d.files f, power := tickD d.power }, 0)
 | none => (d, 8)

def syncDirD (d : Dk) : Dk × Int :=
 if d.power = 0 then (d, 11) else ({ d with kept := dirD d, waits := [], power := tickD d.power }, 0)

def cutD (d : Dk) (n : Int) : Dk := { d with power := if d.power = 0 then 0 else max n 0 }

def crashD (d : Dk) (names : Int) (keep : List Int) : Dk :=
 let l := dirK d (shareN names d.waits.length)
 { d with files := crashF keep l 0 d.files, kept := l, waits := [], power := -1 }

def okCh (m : Nat) : Ch -> Prop
 | .give n f => mayN n = true ∧ f < m
 | .move n tz f => mayN n = true ∧ mayN tz = true ∧ n ≠ tz ∧ f < m
 | .take n => mayN n = true

structure OkL (m : Nat) (l : Dir) : Prop where
 rise : RisingD l
 apart : Apart l
 may : ∀ p ∈ l, mayN p.1 = true ∧ p.2 < m

structure OkD (d : Dk) : Prop where
 dirs : ∀ k, OkL d.files.length (dirK d k)
 chs : ∀ c ∈ d.waits, okCh d.files.length c
 keep : ∀ x ∈ d.files, x.k <= x.b.length

theorem dirK_all (d : Dk) : dirK d d.waits.length = dirD d := by rw [dirK, dirD, List.take_length]

theorem dirK_zero (d : Dk) : dirK d 0 = d.kept := by rw [dirK]; rfl

theorem dirK_succ (d : Dk) {k : Nat} (h : k < d.waits.length) : dirK d (k + 1) = chD (dirK d k) d.waits[k] := by
 rw [dirK, dirK, List.take_succ_eq_append_getElem h, List.foldl_append]
 rfl

theorem OkD.dir {d : Dk} (h : OkD d) : OkL d.files.length (dirD d) := by rw [<- dirK_all]; exact h.dirs _

theorem OkD.kept {d : Dk} (h : OkD d) : OkL d.files.length d.kept := by rw [<- dirK_zero]; exact h.dirs _

theorem OkL.more {m m' : Nat} {l : Dir} (h : OkL m l) (hm : m <= m') : OkL m' l :=
 ⟨h.rise, h.apart, fun p hp => ⟨(h.may p hp).1, by have := (h.may p hp).2; omega⟩⟩

theorem okCh.more {m m' : Nat} {c : Ch} (h : okCh m c) (hm : m <= m') : okCh m' c := by
 cases c with
 | give n f => exact ⟨h.1, by have := h.2; omega⟩
 | move n tz f => exact ⟨h.1, h.2.1, h.2.2.1, by have := h.2.2.2; omega⟩
 | take n => exact h

theorem okL_nil (m : Nat) : OkL m [] := ⟨List.Pairwise.nil, List.Pairwise.nil, fun p hp => by cases hp⟩

theorem okD_new (room : Int) : OkD (newD room) := by
 refine ⟨fun k => ?_, (fun c hc => by cases hc), (fun x hx => by cases hx)⟩
 rw [dirK]
 show OkL 0 ((([] : List Ch).take k).foldl chD [])
 rw [List.take_nil]
 exact okL_nil _

theorem OkD.wait {d : Dk} (h : OkD d) {c : Ch} {fs : List Fl} {p : Int} (hfs : d.files.length <= fs.length) (hk : ∀ x ∈ fs, x.k <= x.b.length) (hc : okCh fs.length c) (hl : OkL fs.length (chD (dirD d) c)) :
   OkD { d with files := fs, waits := d.waits ++ [c], power := p } := by
 refine ⟨fun k => ?_, fun c' hc' => ?_, hk⟩
 · show OkL fs.length (((d.waits ++ [c]).take k).foldl chD d.kept)
   by_cases hle : k <= d.waits.length
   · rw [List.take_append_of_le_length hle]
     exact (h.dirs k).more hfs
   · rw [List.take_of_length_le (by simp; omega), List.foldl_append]
     exact hl
 · rcases List.mem_append.1 hc' with hc' | hc'
   · exact (h.chs c' hc').more hfs
   · rw [List.mem_singleton.1 hc']
     exact hc

theorem OkD.bytes {d : Dk} (h : OkD d) {fs : List Fl} {p : Int} (hfs : d.files.length = fs.length) (hk : ∀ x ∈ fs, x.k <= x.b.length) : OkD { d with files := fs, power := p } := by
 refine ⟨fun k => ?_, fun c hc => ?_, hk⟩
 · show OkL fs.length (dirK d k)
   rw [<- hfs]
   exact h.dirs k
 · show okCh fs.length c
   rw [<- hfs]
   exact h.chs c hc

theorem OkD.power {d : Dk} (h : OkD d) (p : Int) : OkD { d with power := p } := h.bytes (fs := d.files) rfl h.keep

theorem okD_kept {d : Dk} {fs : List Fl} {l : Dir} {p : Int} (hl : OkL fs.length l) (hk : ∀ x ∈ fs, x.k <= x.b.length) : OkD { d with files := fs, kept := l, waits := [], power := p } := by
 refine ⟨fun k => ?_, (fun c hc => by cases hc), hk⟩
 show OkL fs.length ((([] : List Ch).take k).foldl chD l)
 rw [List.take_nil]
 exact hl

theorem OkD.fresh {d : Dk} (h : OkD d) {n : Int} (hn : mayN n = true) : OkD (freshD d n) := by
 have hd := h.dir
 refine OkD.wait (p := d.power) h (by simp) (fun x hx => ?_) ⟨hn, by simp⟩ ⟨?_, ?_, ?_⟩
 · rcases List.mem_append.1 hx with hx | hx
   · exact h.keep x hx
   · rw [List.mem_singleton.1 hx]; exact Nat.le_refl _
 · exact rising_chD hd.rise _
 · rw [chD]
   exact apart_setN hd.apart n _ fun p hp _ => by have := (hd.may p hp).2; omega
 · intro p hp
   rw [chD, mem_setN] at hp
   simp only [List.length_append, List.length_singleton]
   rcases hp with ⟨hp, _⟩ | ⟨hp, e⟩
   · exact ⟨(hd.may p hp).1, by have := (hd.may p hp).2; omega⟩
   · rw [hp]
     have := Option.some.inj e
     exact ⟨hn, by omega⟩

theorem look_fresh {d : Dk} (h : OkD d) (n : Int) : look (dirD (freshD d n)) n = some d.files.length := by
 have e : dirD (freshD d n) = chD (dirD d) (.give n d.files.length) := by
   show (d.waits ++ [_]).foldl chD d.kept = _
   rw [List.foldl_append]
   rfl
 rw [e, look_chD h.dir.rise _ (fun _ _ _ hh => by cases hh)]
 show (if n = n then _ else _) = _
 rw [if_pos rfl]

theorem dirD_fresh (d : Dk) (n : Int) : dirD (freshD d n) = chD (dirD d) (.give n d.files.length) := by
 show (d.waits ++ [_]).foldl chD d.kept = _
 rw [List.foldl_append]
 rfl

theorem mem_fl {fs : List Fl} {f : Nat} (h : f < fs.length) : fl fs f ∈ fs := by
 unfold fl
 rw [List.getD, List.getElem?_eq_getElem h]
 exact List.getElem_mem h

theorem keep_set {fs : List Fl} (h : ∀ x ∈ fs, x.k <= x.b.length) (f : Nat) {y : Fl} (hy : y.k <= y.b.length) : ∀ x ∈ fs.set f y, x.k <= x.b.length := by
 intro x hx
 rcases List.mem_or_eq_of_mem_set hx with hx | rfl
 · exact h x hx
 · exact hy

theorem fl_keep {fs : List Fl} (h : ∀ x ∈ fs, x.k <= x.b.length) (f : Nat) : (fl fs f).k <= (fl fs f).b.length := by
 by_cases hf : f < fs.length
 · exact h _ (mem_fl hf)
 · unfold fl
   rw [List.getD, List.getElem?_eq_none (by omega)]
   exact Nat.le_refl _

theorem OkD.appendTo {d : Dk} (h : OkD d) (f : Nat) (b : List UInt8) : OkD (appendTo d f b) := by
 refine h.bytes (by simp [growF]) (keep_set h.keep f ?_)
 have := fl_keep h.keep f
 simp only [List.length_append]
 omega

theorem OkL.mayOf {m : Nat} {l : Dir} (h : OkL m l) {n : Int} {f : Nat} (e : look l n = some f) : mayN n = true ∧ f < m := h.may (n, f) ((look_mem h.rise n f).1 e)

theorem OkD.cut {d : Dk} (h : OkD d) (n : Int) : OkD (cutD d n) := h.power _

theorem keep_cutF {x : Fl} (h : x.k <= x.b.length) (a : Int) : (cutF x a).k <= (cutF x a).b.length := by
 have := shareN_le a (x.b.length - x.k)
 unfold cutF
 simp only [List.length_take]
 omega

theorem cutF_len {x : Fl} (h : x.k <= x.b.length) (a : Int) : (cutF x a).b.length = (cutF x a).k := by
 have := shareN_le a (x.b.length - x.k)
 unfold cutF
 simp only [List.length_take]
 omega

theorem keep_crashF (keep : List Int) : ∀ (l : Dir) (i : Nat) (fs : List Fl), (∀ x ∈ fs, x.k <= x.b.length) -> ∀ x ∈ crashF keep l i fs, x.k <= x.b.length
 | [], _, _, h => h
 | p :: l, i, fs, h => by
   rw [crashF]
   exact keep_crashF keep l (i + 1) _ (keep_set h _ (keep_cutF (fl_keep h _) _))

theorem OkD.crash {d : Dk} (h : OkD d) (names : Int) (keep : List Int) : OkD (crashD d names keep) :=
 okD_kept (fs := crashF keep (dirK d (shareN names d.waits.length)) 0 d.files) (by rw [crashF_length]; exact h.dirs _) (keep_crashF keep _ 0 _ h.keep)

def val : List UInt8 -> Nat
 | [] => 0
 | c :: r => c.toNat % 128 + 128 * val r

def dec : Nat -> List UInt8 -> Option (Nat × Nat)
 | 0, _ => none
 | _ + 1, [] => none
 | n + 1, c :: r => if c.toNat < 128 then some (c.toNat, 1) else
   match dec n r with
   | some (v + 1, k) => some (c.toNat % 128 + 128 * (v + 1), k + 1)
   | _ => none

def dec64 (l : List UInt8) : Nat × Nat :=
 match dec 10 l with
 | some (v, k) => if v < 18446744073709551616 then (v, k) else (0, 0)
 | none => (0, 0)

def dec62 (l : List UInt8) : Nat × Nat := if (dec64 l).1 < 4611686018427387904 then dec64 l else (0, 0)

theorem val_lt : ∀ l : List UInt8, val l < 128 ^ l.length
 | [] => by simp [val]
 | c :: r => by
   have h := val_lt r
   simp only [val, List.length_cons, Nat.pow_succ]
   omega

theorem val_snoc : ∀ (l : List UInt8) (c : UInt8), val (l ++ [c]) = val l + c.toNat % 128 * 128 ^ l.length
 | [], c => by simp [val]
 | d :: r, c => by
   have h := val_snoc r c
   simp only [List.cons_append, val, List.length_cons, Nat.pow_succ, h]
   rw [Nat.mul_add, <- Nat.mul_assoc, Nat.mul_comm 128 (c.toNat % 128), Nat.mul_assoc, Nat.mul_comm 128 (128 ^ r.length)]
   omega

theorem take_snoc (l : List UInt8) (k : Nat) (h : k < l.length) : l.take (k + 1) = l.take k ++ [l.getD k 0] := by
 rw [List.take_succ_eq_append_getElem h]
 simp [List.getD, h]

theorem val_take (l : List UInt8) (k : Nat) (h : k < l.length) : val (l.take (k + 1)) = val (l.take k) + (l.getD k 0).toNat % 128 * 128 ^ k := by
 rw [take_snoc l k h, val_snoc, List.length_take, Nat.min_eq_left (by omega)]

theorem dec_hit : ∀ (k n : Nat) (l : List UInt8), k < n -> k < l.length -> (∀ j, j < k -> 128 <= (l.getD j 0).toNat) -> (l.getD k 0).toNat < 128 ->
   dec n l = if 0 < k ∧ (l.getD k 0).toNat = 0 then none else some (val (l.take (k + 1)), k + 1)
 | 0, n + 1, c :: r, _, _, _, h => by
   have hc : c.toNat < 128 := by simpa using h
   simp only [dec, hc, if_true]
   simp [val]
   omega
 | k + 1, n + 1, c :: r, hn, hl, hj, h => by
   have h0 : 128 <= c.toNat := by simpa using hj 0 (by omega)
   have ih := dec_hit k n r (by omega) (by simpa using hl) (fun j hjk => by simpa using hj (j + 1) (by omega)) (by simpa using h)
   have hlast : ((c :: r).getD (k + 1) 0) = r.getD k 0 := by simp
   simp only [dec]
   rw [if_neg (show ¬ c.toNat < 128 by omega), hlast]
   have hlt : k < r.length := by simpa using hl
   have hm : (r.getD k 0).toNat % 128 = (r.getD k 0).toNat := Nat.mod_eq_of_lt (by simpa using h)
   by_cases hz : (r.getD k 0).toNat = 0
   · rw [if_pos ⟨Nat.succ_pos k, hz⟩]
     have hR : dec n r = none ∨ dec n r = some (0, 1) := by
       by_cases hk : 0 < k
       · exact .inl (by rw [ih, if_pos ⟨hk, hz⟩])
       · obtain rfl : k = 0 := by omega
         have hv : val (r.take (0 + 1)) = 0 := by
           rw [val_take r 0 hlt, hz]
           simp [val]
         exact .inr (by rw [ih, if_neg (fun e => hk e.1), hv])
     rcases hR with e | e <;> rw [e]
   · have hv : 0 < val (r.take (k + 1)) := by
       rw [val_take r k hlt, hm]
       have h1 : 0 < 128 ^ k := Nat.pow_pos (by decide)
       have h2 : 0 < (r.getD k 0).toNat * 128 ^ k := Nat.mul_pos (by omega) h1
       omega
     obtain ⟨m, hm'⟩ : ∃ m, val (r.take (k + 1)) = m + 1 := ⟨val (r.take (k + 1)) - 1, by omega⟩
     have e : dec n r = some (m + 1, k + 1) := by rw [ih, if_neg (fun e => hz e.2), hm']
     rw [e, if_neg (fun e => hz e.2)]
     simp only [List.take_succ_cons, val, hm']

theorem dec_miss : ∀ (n : Nat) (l : List UInt8), (∀ j, j < n -> j < l.length -> 128 <= (l.getD j 0).toNat) -> dec n l = none
 | 0, _, _ => rfl
 | n + 1, [], _ => rfl
 | n + 1, c :: r, h => by
   have h0 : 128 <= c.toNat := by simpa using h 0 (by omega) (by simp)
   have ih := dec_miss n r (fun j hn hl => by simpa using h (j + 1) (by omega) (by simpa using hl))
   simp only [dec]
   rw [if_neg (by omega), ih]

theorem dec_uvarint : ∀ (n u : Nat) (t : List UInt8), (Lib.uvarint u).length <= n -> dec n (Lib.uvarint u ++ t) = some (u, (Lib.uvarint u).length)
 | 0, u, _, h => by have := Lib.uvarint_pos u; omega
 | n + 1, u, t, h => by
   by_cases hu : u < 128
   · rw [Lib.uvarint_small hu]
     have e : (u.toUInt8).toNat = u := Lib.toUInt8_toNat (by omega)
     simp only [List.cons_append, dec, e, hu, if_true]
     simp
   · rw [Lib.uvarint_big (by omega)] at h ⊢
     have e : ((u % 128 + 128).toUInt8).toNat = u % 128 + 128 := Lib.toUInt8_toNat (by omega)
     have ih := dec_uvarint n (u / 128) t (by simpa using h)
     obtain ⟨m, hm⟩ : ∃ m, u / 128 = m + 1 := ⟨u / 128 - 1, by omega⟩
     rw [hm] at ih ⊢
     simp only [List.cons_append, dec, e]
     rw [if_neg (by omega), ih]
     simp only [List.length_cons, Option.some.injEq, Prod.mk.injEq, and_true]
     omega

theorem dec_sound : ∀ (n : Nat) (l : List UInt8) (v k : Nat), dec n l = some (v, k) -> k <= l.length ∧ 1 <= k ∧ l.take k = Lib.uvarint v
 | 0, _, _, _, h => by simp [dec] at h
 | n + 1, [], _, _, h => by simp [dec] at h
 | n + 1, c :: r, v, k, h => by
   simp only [dec] at h
   by_cases hc : c.toNat < 128
   · rw [if_pos hc] at h
     simp only [Option.some.injEq, Prod.mk.injEq] at h
     obtain ⟨rfl, rfl⟩ := h
     refine ⟨by simp, by omega, ?_⟩
     rw [Lib.uvarint_small hc]
     simp
   · rw [if_neg hc] at h
     cases hd : dec n r with
     | none => rw [hd] at h; simp at h
     | some p =>
       obtain ⟨v', k'⟩ := p
       rw [hd] at h
       cases v' with
       | zero => simp at h
       | succ m =>
         simp only [Option.some.injEq, Prod.mk.injEq] at h
         obtain ⟨rfl, rfl⟩ := h
         have ih := dec_sound n r (m + 1) k' hd
         have hb := c.toNat_lt
         refine ⟨by simpa using ih.1, by omega, ?_⟩
         rw [Lib.uvarint_big (by omega), List.take_succ_cons, ih.2.2]
         have e1 : (c.toNat % 128 + 128 * (m + 1)) % 128 + 128 = c.toNat := by omega
         have e2 : (c.toNat % 128 + 128 * (m + 1)) / 128 = m + 1 := by omega
         rw [e1, e2]
         simp

theorem dec64_uvarint (u : Nat) (t : List UInt8) (h : u < 18446744073709551616) : dec64 (Lib.uvarint u ++ t) = (u, (Lib.uvarint u).length) := by
 unfold dec64
 rw [dec_uvarint 10 u t (Lib.uvarint_length64 h)]
 simp [h]

theorem dec62_uvarint (u : Nat) (t : List UInt8) (h : u < 4611686018427387904) : dec62 (Lib.uvarint u ++ t) = (u, (Lib.uvarint u).length) := by
 unfold dec62
 rw [dec64_uvarint u t (by omega)]
 simp [h]

theorem dec64_cases (l : List UInt8) : dec64 l = (0, 0) ∨ ((dec64 l).1 < 18446744073709551616 ∧ 1 <= (dec64 l).2 ∧ (dec64 l).2 <= l.length ∧ l.take (dec64 l).2 = Lib.uvarint (dec64 l).1) := by
 unfold dec64
 cases h : dec 10 l with
 | none => exact .inl rfl
 | some p =>
   obtain ⟨v, k⟩ := p
   have hs := dec_sound 10 l v k h
   by_cases hv : v < 18446744073709551616
   · simp only [hv, if_true]
     exact .inr ⟨trivial, hs.2.1, hs.1, hs.2.2⟩
   · simp only [hv, if_false]
     exact .inl trivial

theorem dec64_lt (l : List UInt8) : (dec64 l).1 < 18446744073709551616 := by
 rcases dec64_cases l with h | h
 · rw [h]; decide
 · exact h.1

theorem dec64_le (l : List UInt8) : (dec64 l).2 <= l.length := by
 rcases dec64_cases l with h | h
 · rw [h]; exact Nat.zero_le _
 · exact h.2.2.1

theorem dec62_cases (l : List UInt8) : dec62 l = (0, 0) ∨ ((dec62 l).1 < 4611686018427387904 ∧ 1 <= (dec62 l).2 ∧ (dec62 l).2 <= l.length ∧ l.take (dec62 l).2 = Lib.uvarint (dec62 l).1) := by
 unfold dec62
 by_cases h : (dec64 l).1 < 4611686018427387904
 · rw [if_pos h]
   rcases dec64_cases l with e | e
   · exact .inl e
   · exact .inr ⟨h, e.2⟩
 · rw [if_neg h]
   exact .inl rfl

theorem pow7 (k : Nat) : 2 ^ (7 * k) = 128 ^ k := by rw [Nat.pow_mul]

theorem uvarint_open : ∀ (n u j : Nat), (Lib.uvarint u).length <= n -> j + 1 < (Lib.uvarint u).length -> 128 <= ((Lib.uvarint u).getD j 0).toNat
 | 0, u, _, h, _ => by have := Lib.uvarint_pos u; omega
 | n + 1, u, j, h, hj => by
   by_cases hu : u < 128
   · rw [Lib.uvarint_small hu] at hj
     simp at hj
   · rw [Lib.uvarint_big (by omega)] at h hj ⊢
     cases j with
     | zero =>
       have e : ((u % 128 + 128).toUInt8).toNat = u % 128 + 128 := Lib.toUInt8_toNat (by omega)
       simp only [List.getD_cons_zero, e]
       omega
     | succ j =>
       simp only [List.length_cons] at h hj
       simp only [List.getD_cons_succ]
       exact uvarint_open n (u / 128) j (by omega) (by omega)

set_option maxRecDepth 100000

def Rd (w : World) (v : Value) (l : List UInt8) : Prop :=
 ∃ ao cap, v = .slice ao l.length cap ∧ l.length <= cap ∧ cap <= maxLen ∧ (ao = none -> cap = 0) ∧
   (l = [] ∨ ∃ b off, ao = some ⟨b, off, none⟩ ∧ ∀ j, j < l.length -> w.cell? ⟨b, off + j, none⟩ = some (.int .u8 (l.getD j 0).toNat))

def Own (w : World) (B : Nat) (v : Value) (l : List UInt8) : Prop := w.ownsRow B 5 1 v l.length (Lib.byteCells l)

theorem byteCells_length (l : List UInt8) : (Lib.byteCells l).length = l.length := by simp [Lib.byteCells]

theorem byteCells_get (l : List UInt8) (j : Nat) (h : j < l.length) : (Lib.byteCells l)[j]? = some (.int .u8 (l.getD j 0).toNat) := by
 simp [Lib.byteCells, List.getD, h]

theorem byteCells_one (l : List UInt8) : ∀ u ∈ Lib.byteCells l, u.oneCell' = true := by
 intro u hu
 obtain ⟨_, _, rfl⟩ := List.mem_map.1 hu
 rfl

theorem Rd.nil (w : World) : Rd w (.slice none 0 0) [] := ⟨none, 0, rfl, Nat.le_refl _, Nat.zero_le _, fun _ => rfl, .inl rfl⟩

theorem Rd.below {w w' : World} {v : Value} {l : List UInt8} (h : Rd w v l) {B : Nat} (hb : Below B w w') (hB : w.heap.size <= B) : Rd w' v l := by
 obtain ⟨ao, cap, h1, h2, h3, hn, h4⟩ := h
 refine ⟨ao, cap, h1, h2, h3, hn, ?_⟩
 rcases h4 with h4 | ⟨b, off, h5, h6⟩
 · exact .inl h4
 · refine .inr ⟨b, off, h5, fun j hj => ?_⟩
   have hc := h6 j hj
   have hlt : b < w.heap.size := World.block_lt_of_cell? w ⟨b, off + j, none⟩ hc
   rw [hb.cell (p := ⟨b, off + j, none⟩) (by exact Nat.lt_of_lt_of_le hlt hB)]
   exact hc

theorem Rd.at {w : World} {b off n cap : Nat} {l : List UInt8} (h : Rd w (.slice (some ⟨b, off, none⟩) n cap) l) (j : Nat) (hj : j < l.length) : w.cell? ⟨b, off + j, none⟩ = some (.int .u8 (l.getD j 0).toNat) := by
 obtain ⟨ao, cap', hv, _, _, _, h4⟩ := h
 simp only [Value.slice.injEq] at hv
 obtain ⟨rfl, _, rfl⟩ := hv
 rcases h4 with h4 | ⟨b', off', h5, h6⟩
 · subst h4
   simp at hj
 · simp only [Option.some.injEq, Addr.mk.injEq, and_true] at h5
   obtain ⟨rfl, rfl⟩ := h5
   exact h6 j hj

theorem Rd.ofRow {w : World} {x : Addr} {len cap : Nat} {zs : List Int} (hl : len <= cap) (hm : cap <= maxLen) (hz : zs.length = cap) (hcell : ∀ i, i < zs.length -> w.cell? (x.add i) = some (.int .u8 (zs.getD i 0))) (hwz : ∀ n ∈ zs, (Lit.int .u8 n).wf = true) :
   Rd w (.slice (some x) len cap) ((zs.take len).map fun n => UInt8.ofNat n.toNat) := by
 have hlen : ((zs.take len).map fun n => UInt8.ofNat n.toNat).length = len := by simp; omega
 refine ⟨some x, cap, by rw [hlen], by omega, hm, (fun e => by cases e), ?_⟩
 by_cases h0 : len = 0
 · exact .inl (by rw [h0]; rfl)
 · obtain ⟨b, off, spot⟩ := x
   have hc := hcell 0 (by omega)
   have hspot : spot = none := by simpa [Addr.add] using World.cell?_spot hc
   subst hspot
   refine .inr ⟨b, off, rfl, fun j hj => ?_⟩
   have hj' : j < zs.length := by omega
   have hcj := hcell j hj'
   rw [Addr.add_lit] at hcj
   rw [hcj]
   have hmem : zs[j] ∈ zs := List.getElem_mem hj'
   have hw := hwz _ hmem
   have hb : 0 <= zs[j] ∧ zs[j] <= 255 := by simpa [Lit.wf, IntKind.min, IntKind.max, IntKind.signed, IntKind.bits] using hw
   have e : (((zs.take len).map fun n => UInt8.ofNat n.toNat).getD j 0) = UInt8.ofNat (zs[j]).toNat := by
     simp [List.getD, hj', show j < len by omega]
   rw [e]
   have e2 : zs.getD j 0 = zs[j] := by simp [List.getD, hj']
   rw [e2, UInt8.toNat_ofNat']
   congr 2
   omega

theorem Own.rd {w : World} {B : Nat} {v : Value} {l : List UInt8} (h : Own w B v l) : Rd w v l := by
 rcases h.2 with ⟨hv, hn⟩ | ⟨g, cap, cur, hv, hb, hg, hnc, hcm, hcs, htake⟩
 · exact ⟨none, 0, by rw [hv, hn], by omega, Nat.zero_le _, fun _ => rfl, .inl (List.eq_nil_of_length_eq_zero hn)⟩
 · refine ⟨some ⟨g, 0, none⟩, cap, hv, hnc, hcm, (fun e => by cases e), .inr ⟨g, 0, rfl, fun j hj => ?_⟩⟩
   have := World.ownsRow.cells h (g := g) (by rw [hv]; rfl) j _ (byteCells_get l j hj)
   rw [Addr.add_lit] at this
   exact this

theorem Own.mono {w : World} {B B' : Nat} {v : Value} {l : List UInt8} (h : Own w B v l) (hB : B' <= B) : Own w B' v l := by
 obtain ⟨h1, h2⟩ := h
 refine ⟨h1, ?_⟩
 rcases h2 with h2 | ⟨g, cap, cur, hv, hb, r⟩
 · exact .inl h2
 · exact .inr ⟨g, cap, cur, hv, by omega, r⟩

theorem Own.below {w w' : World} {B B' : Nat} {v : Value} {l : List UInt8} (h : Own w B v l) (hb : Below B' w w') (hB : w.heap.size <= B') : Own w' B v l := by
 obtain ⟨h1, h2⟩ := h
 refine ⟨h1, ?_⟩
 rcases h2 with h2 | ⟨g, cap, cur, hv, hbg, hg, r⟩
 · exact .inl h2
 · have hlt : g < w.heap.size := (Array.getElem?_eq_some_iff.1 hg).1
   exact .inr ⟨g, cap, cur, hv, hbg, by rw [hb.block g (by omega)]; exact hg, r⟩

theorem Rd.cells {w : World} {ao : Option Addr} {l : List UInt8} (h : l = [] ∨ ∃ b off, ao = some ⟨b, off, none⟩ ∧ ∀ j, j < l.length -> w.cell? ⟨b, off + j, none⟩ = some (.int .u8 (l.getD j 0).toNat)) :
   ∀ ad, ao = some ad -> ∀ j u, (Lib.byteCells l)[j]? = some u -> w.cell? (ad.add j) = some u := by
 intro ad had j u hu
 have hj : j < l.length := by
   have := (List.getElem?_eq_some_iff.1 hu).1
   simpa [Lib.byteCells] using this
 rcases h with rfl | ⟨b, off, h5, h6⟩
 · simp at hj
 · rw [h5] at had
   obtain rfl := Option.some.inj had
   rw [Addr.add_lit, h6 j hj, <- byteCells_get l j hj, hu]

theorem Own.mk' {w : World} {B : Nat} {v : Value} {n : Nat} {xs : List Value} {l : List UInt8} (h : w.ownsRow B 5 1 v n xs) (hn : n = l.length) (hx : xs = Lib.byteCells l) : Own w B v l := by
 subst hn hx
 exact h

theorem hide {p : Prop} (h : p) : Hid p := h

theorem info8 : (Tryz.prog.info? 5).map (fun i => (i.zero, i.size, i.bytes)) = some (some (.int .u8 0), 1, 1) := by kernel_rfl

theorem ret_bool {a b : Bool} (h : a = b) : Ending.returned (.bool a) = .returned (.bool b) := by rw [h]

theorem ret_int {k : IntKind} {a b : Int} (h : a = b) : Ending.returned (.int k a) = .returned (.int k b) := by rw [h]

theorem zig_plain (n : Int) (h0 : -9223372036854775808 <= n) (h1 : n <= 9223372036854775807) :
   bits .xor .u64 (IntKind.u64.wrap (IntKind.u64.wrap n * 2)) (IntKind.u64.wrap (n / 9223372036854775808)) = ((Lib.zigzag n : Nat) : Int) := by
 by_cases h : 0 <= n
 · have e1 : IntKind.u64.wrap (IntKind.u64.wrap n * 2) = (((2 * n).toNat : Nat) : Int) := by
     rw [IntKind.wrap_u64, IntKind.wrap_u64]; omega
   have e2 : IntKind.u64.wrap (n / 9223372036854775808) = ((0 : Nat) : Int) := by
     rw [IntKind.wrap_u64]; omega
   rw [e1, e2, bits_xor_u64_nat _ _ (by omega) (by decide)]
   unfold Lib.zigzag
   rw [if_pos h]
   simp
 · have e1 : IntKind.u64.wrap (IntKind.u64.wrap n * 2) = (((2 * n + 18446744073709551616).toNat : Nat) : Int) := by
     rw [IntKind.wrap_u64, IntKind.wrap_u64]; omega
   have e2 : IntKind.u64.wrap (n / 9223372036854775808) = ((2 ^ 64 - 1 : Nat) : Int) := by
     rw [IntKind.wrap_u64]; omega
   rw [e1, e2, bits_xor_u64_nat _ _ (by omega) (by decide), Nat.xor_comm, Lib.xor_ones64 _ (by omega)]
   unfold Lib.zigzag
   rw [if_neg h]
   omega

def zag (u : Nat) : Int := if u % 2 = 0 then ((u / 2 : Nat) : Int) else -((u / 2 : Nat) : Int) - 1

theorem i64_xor_ones (x : Nat) (hx : x < 9223372036854775808) : bits .xor .i64 (x : Int) (-1) = -(x : Int) - 1 := by
 show IntKind.i64.wrap ((BitVec.ofInt 64 (x : Int) ^^^ BitVec.ofInt 64 (-1)).toNat : Int) = _
 have h1 : (BitVec.ofInt 64 (-1)).toNat = 2 ^ 64 - 1 := by decide
 have h2 : (BitVec.ofInt 64 (x : Int)).toNat = x := by
   rw [BitVec.ofInt_natCast, BitVec.toNat_ofNat]; exact Nat.mod_eq_of_lt (by omega)
 rw [BitVec.toNat_xor, h1, h2, Nat.xor_comm, Lib.xor_ones64 x (by omega), IntKind.wrap_i64]
 omega

theorem i64_xor_zero (x : Nat) (hx : x < 9223372036854775808) : bits .xor .i64 (x : Int) 0 = (x : Int) := by
 show IntKind.i64.wrap ((BitVec.ofInt 64 (x : Int) ^^^ BitVec.ofInt 64 0).toNat : Int) = _
 have h1 : (BitVec.ofInt 64 0).toNat = 0 := by decide
 have h2 : (BitVec.ofInt 64 (x : Int)).toNat = x := by
   rw [BitVec.ofInt_natCast, BitVec.toNat_ofNat]; exact Nat.mod_eq_of_lt (by omega)
 rw [BitVec.toNat_xor, h1, h2, Nat.xor_zero, IntKind.wrap_i64]
 omega

theorem zag_plain (u : Nat) (h : u < 18446744073709551616) :
   bits .xor .i64 ((u : Int) / 2) (wrap64 (-wrap64 (bits .and .u64 (u : Int) 1))) = zag u := by
 rw [Lib.u64_and1 _ (by omega) (by omega)]
 have e : (u : Int) / 2 = ((u / 2 : Nat) : Int) := by omega
 rw [e]
 unfold zag
 by_cases hp : u % 2 = 0
 · have e2 : wrap64 (-wrap64 ((u : Int) % 2)) = 0 := by
     have : (u : Int) % 2 = 0 := by omega
     rw [this]
     unfold wrap64
     omega
   rw [e2, if_pos hp, i64_xor_zero _ (by omega)]
 · have e2 : wrap64 (-wrap64 ((u : Int) % 2)) = -1 := by
     have : (u : Int) % 2 = 1 := by omega
     rw [this]
     unfold wrap64
     omega
   rw [e2, if_neg hp, i64_xor_ones _ (by omega)]

theorem zag_zigzag (n : Int) (h0 : -9223372036854775808 <= n) (h1 : n <= 9223372036854775807) : zag (Lib.zigzag n) = n := by
 unfold zag Lib.zigzag
 split <;> split <;> omega

theorem zigzag_zag (u : Nat) : Lib.zigzag (zag u) = u := by
 unfold zag Lib.zigzag
 split <;> split <;> omega

theorem zag_range (u : Nat) (h : u < 18446744073709551616) : -9223372036854775808 <= zag u ∧ zag u <= 9223372036854775807 := by
 unfold zag
 split <;> omega

theorem zig_any (n : Int) (w : World) (h0 : -9223372036854775808 <= n) (h1 : n <= 9223372036854775807) :
   Calls Tryz.prog 194 #[.int .i64 n] w fun e w' => e = .returned (.int .u64 (Lib.zigzag n : Nat)) ∧ w' = w := by
 have H : Hid (bits .xor .u64 (IntKind.u64.wrap (IntKind.u64.wrap n * 2)) (IntKind.u64.wrap (n / 9223372036854775808)) = ((Lib.zigzag n : Nat) : Int)) := zig_plain n h0 h1
 go_enter Tryz.func194, Tryz.ntmps194
 go_wp2
 go_ret
 exact ⟨ret_int H.out, rfl⟩

theorem zag_any (u : Nat) (w : World) (h : u < 18446744073709551616) :
   Calls Tryz.prog 223 #[.int .u64 (u : Int)] w fun e w' => e = .returned (.int .i64 (zag u)) ∧ w' = w := by
 have H : Hid (bits .xor .i64 ((u : Int) / 2) (wrap64 (-wrap64 (bits .and .u64 (u : Int) 1))) = zag u) := zag_plain u h
 go_enter Tryz.func223, Tryz.ntmps223
 go_wp2
 go_ret
 exact ⟨ret_int H.out, rfl⟩

theorem hide' {p : Prop} (h : p) : Hid p := h

def I64 (n : Int) : Prop := -9223372036854775808 <= n ∧ n <= 9223372036854775807

def RdI (w : World) (v : Value) (l : List Int) : Prop :=
 ∃ ao cap, v = .slice ao l.length cap ∧ l.length <= cap ∧ cap <= maxLen ∧ (ao = none -> cap = 0) ∧ (∀ n ∈ l, I64 n) ∧
   (l = [] ∨ ∃ b off, ao = some ⟨b, off, none⟩ ∧ ∀ j, j < l.length -> w.cell? ⟨b, off + j, none⟩ = some (.int .i64 (l.getD j 0)))

def intCells (l : List Int) : List Value := l.map (Value.int .i64)

def OwnI (w : World) (B : Nat) (v : Value) (l : List Int) : Prop := w.ownsRow B 3 1 v l.length (intCells l)

theorem intCells_length (l : List Int) : (intCells l).length = l.length := by simp [intCells]

theorem intCells_get (l : List Int) (j : Nat) (h : j < l.length) : (intCells l)[j]? = some (.int .i64 (l.getD j 0)) := by
 simp [intCells, List.getD, h]

theorem intCells_one (l : List Int) : ∀ u ∈ intCells l, u.oneCell' = true := by
 intro u hu
 obtain ⟨_, _, rfl⟩ := List.mem_map.1 hu
 rfl

theorem RdI.nil (w : World) : RdI w (.slice none 0 0) [] := ⟨none, 0, rfl, Nat.le_refl _, Nat.zero_le _, fun _ => rfl, (fun n h => by simp at h), .inl rfl⟩

theorem OwnI.nil (w : World) (B : Nat) : OwnI w B (.slice none 0 0) [] := World.ownsRow_nil w B 3 1

theorem RdI.i64 {w : World} {v : Value} {l : List Int} (h : RdI w v l) : ∀ n ∈ l, I64 n := by
 obtain ⟨_, _, _, _, _, _, h, _⟩ := h
 exact h

theorem RdI.below {w w' : World} {v : Value} {l : List Int} (h : RdI w v l) {B : Nat} (hb : Below B w w') (hB : w.heap.size <= B) : RdI w' v l := by
 obtain ⟨ao, cap, h1, h2, h3, hn, hw, h4⟩ := h
 refine ⟨ao, cap, h1, h2, h3, hn, hw, ?_⟩
 rcases h4 with h4 | ⟨b, off, h5, h6⟩
 · exact .inl h4
 · refine .inr ⟨b, off, h5, fun j hj => ?_⟩
   have hc := h6 j hj
   have hlt : b < w.heap.size := World.block_lt_of_cell? w ⟨b, off + j, none⟩ hc
   rw [hb.cell (p := ⟨b, off + j, none⟩) (by exact Nat.lt_of_lt_of_le hlt hB)]
   exact hc

theorem RdI.ofRow {w : World} {x : Addr} {len cap : Nat} {zs : List Int} (hl : len <= cap) (hm : cap <= maxLen) (hz : zs.length = cap) (hcell : ∀ i, i < zs.length -> w.cell? (x.add i) = some (.int .i64 (zs.getD i 0))) (hwz : ∀ n ∈ zs, (Lit.int .i64 n).wf = true) :
   RdI w (.slice (some x) len cap) (zs.take len) := by
 have hlen : (zs.take len).length = len := by simp; omega
 refine ⟨some x, cap, by rw [hlen], by omega, hm, (fun e => by cases e), fun n hn => ?_, ?_⟩
 · have := hwz n (List.mem_of_mem_take hn)
   simpa [I64, Lit.wf, IntKind.min, IntKind.max, IntKind.signed, IntKind.bits] using this
 · by_cases h0 : len = 0
   · exact .inl (by rw [h0]; rfl)
   · obtain ⟨b, off, spot⟩ := x
     have hc := hcell 0 (by omega)
     have hspot : spot = none := by simpa [Addr.add] using World.cell?_spot hc
     subst hspot
     refine .inr ⟨b, off, rfl, fun j hj => ?_⟩
     have hcj := hcell j (by omega)
     rw [Addr.add_lit] at hcj
     rw [hcj]
     have hj' : j < len := by omega
     simp [List.getD, hj']

theorem OwnI.rd {w : World} {B : Nat} {v : Value} {l : List Int} (h : OwnI w B v l) (hw : ∀ n ∈ l, I64 n) : RdI w v l := by
 rcases h.2 with ⟨hv, hn⟩ | ⟨g, cap, cur, hv, hb, hg, hnc, hcm, hcs, htake⟩
 · exact ⟨none, 0, by rw [hv, hn], by omega, Nat.zero_le _, fun _ => rfl, hw, .inl (List.eq_nil_of_length_eq_zero hn)⟩
 · refine ⟨some ⟨g, 0, none⟩, cap, hv, hnc, hcm, (fun e => by cases e), hw, .inr ⟨g, 0, rfl, fun j hj => ?_⟩⟩
   have := World.ownsRow.cells h (g := g) (by rw [hv]; rfl) j _ (intCells_get l j hj)
   rw [Addr.add_lit] at this
   exact this

theorem OwnI.mono {w : World} {B B' : Nat} {v : Value} {l : List Int} (h : OwnI w B v l) (hB : B' <= B) : OwnI w B' v l := by
 obtain ⟨h1, h2⟩ := h
 refine ⟨h1, ?_⟩
 rcases h2 with h2 | ⟨g, cap, cur, hv, hb, r⟩
 · exact .inl h2
 · exact .inr ⟨g, cap, cur, hv, by omega, r⟩

theorem OwnI.below {w w' : World} {B B' : Nat} {v : Value} {l : List Int} (h : OwnI w B v l) (hb : Below B' w w') (hB : w.heap.size <= B') : OwnI w' B v l := by
 obtain ⟨h1, h2⟩ := h
 refine ⟨h1, ?_⟩
 rcases h2 with h2 | ⟨g, cap, cur, hv, hbg, hg, r⟩
 · exact .inl h2
 · have hlt : g < w.heap.size := (Array.getElem?_eq_some_iff.1 hg).1
   exact .inr ⟨g, cap, cur, hv, hbg, by rw [hb.block g (by omega)]; exact hg, r⟩

theorem info_i64 : (Tryz.prog.info? 3).map (fun i => (i.zero, i.size, i.bytes)) = some (some (.int .i64 0), 1, 8) := by kernel_rfl

theorem run_append_int (w : World) (ty : TypeId) (B : Nat) (v : Value) (l : List Int) (h : OwnI w B v l) (n : Int) (hlim : l.length <= 1000000) (hbase : B <= w.heap.size) :
   ∃ v' w', (Builtin.append_ #[23, 23] ty #[v, .slice (some ⟨w.heap.size, 0, none⟩) 1 1]).run Tryz.prog (w.alloc (.cells #[.int .i64 n] 3)) = .ok v' w' ∧ OwnI w' B v' (l ++ [n]) ∧ Below B w w' := by
 obtain ⟨i0, hi, hz0, hz1, hz2⟩ := info_parts info_i64
 obtain ⟨v', w', hrun, ho, hg, _⟩ := run_append_own (P := Tryz.prog) (w.alloc (.cells #[.int .i64 n] 3)) B 23 ty 3 i0 (.int .i64 0) 1 8 Tryz.underlying23 hi hz0 hz1 hz2 rfl (by decide) v l.length (intCells l) (World.ownsRow.alloc h _)
   ⟨w.heap.size, 0, none⟩ 1 1 [.int .i64 n] rfl (fun j u hj => by
     match j, hj with
     | 0, hj => simp at hj; subst hj; simp [Addr.add]) (fun u hu => by simp at hu; subst hu; rfl) (by unfold maxLen; omega) (by omega) (by simp; omega)
 refine ⟨v', w', hrun, ?_, ?_⟩
 · unfold OwnI
   have e1 : (l ++ [n]).length = l.length + 1 := by simp
   have e2 : intCells (l ++ [n]) = intCells l ++ [.int .i64 n] := by simp [intCells]
   rw [e1, e2]
   exact ho
 · exact ((Below.refl _ _).alloc hbase _).grown hg (by simp; omega) (fun k hk => (World.ownsRow.lt h k hk).1)

theorem wpList_append_int (w : World) {ops : Array Oper} {rest : List Oper} {o : Oper} {a : Act} {Q : Exit -> Act -> World -> Prop} (hgd : o.guard = none) (s x : Operand)
   (ho : o.op = .call { callee := .builtin .append, args := #[s, x], argTypes := #[23, 23] })
   (B : Nat) (v : Value) (l : List Int) (hs : a.eval s = v) (hown : OwnI w B v l) (n : Int) (hx : a.eval x = .slice (some ⟨w.heap.size, 0, none⟩) 1 1)
   (hlim : l.length <= 1000000) (hbase : B <= w.heap.size)
   (h : ∀ v' w', OwnI w' B v' (l ++ [n]) -> Below B w w' -> wpList Tryz.prog ops Q rest (a.put o.dst v') w') : wpList Tryz.prog ops Q (o :: rest) a (w.alloc (.cells #[.int .i64 n] 3)) :=
 wpList_plain hgd fun _ hK => by
   obtain ⟨v', w', hrun, h2, h3⟩ := run_append_int w o.type B v l hown n hlim hbase
   unfold Oper.wp execOp
   simp only [ho, resolve, invoke, builtin, Sem.run_bind, Sem.run_pure, Result.andThen_ok, List.map_toArray, List.map_cons, List.map_nil, hs, hx, hrun]
   exact hK _ _ (h v' w' h2 h3)

def cutZ (n : Int) : Int := if n < -1099511627776 then -1099511627776 else if 1099511627776 < n then 1099511627776 else n

theorem cutZ_in (n : Int) : -1099511627776 <= cutZ n ∧ cutZ n <= 1099511627776 := by
 unfold cutZ
 split
 · omega
 · split <;> omega

structure St where
 kind : Int
 L : List Int
 shut : Bool
 eng : Int

structure Opn where
 code : Int
 a : Int
 b : Int

def PairAt (least : Int) (l : List Int) (k : Nat) : Prop :=
 0 <= l.getD k 0 ∧ l.getD k 0 <= 255 ∧ (0 < k -> l.getD (k - 2) 0 < l.getD k 0) ∧ least <= l.getD (k + 1) 0 ∧ l.getD (k + 1) 0 <= 1099511627776

instance (least : Int) (l : List Int) (k : Nat) : Decidable (PairAt least l k) := by unfold PairAt; infer_instance

def PairsOk (least : Int) (l : List Int) : Prop := l.length % 2 = 0 ∧ l.length <= 128 ∧ ∀ k, k < l.length -> k % 2 = 0 -> PairAt least l k

instance (least : Int) (l : List Int) : Decidable (PairsOk least l) := by unfold PairsOk; infer_instance

def InBounds (l : List Int) : Prop := ∀ j, j < l.length -> -1099511627776 <= l.getD j 0 ∧ l.getD j 0 <= 1099511627776

instance (l : List Int) : Decidable (InBounds l) := by unfold InBounds; infer_instance

def NumsOk (kind : Int) (l : List Int) : Prop :=
 if kind = 4 then PairsOk (-1099511627776) l else if kind = 5 then PairsOk 0 l else l.length <= 64 ∧ (kind <= 1 -> l.length = 1) ∧ InBounds l

instance (kind : Int) (l : List Int) : Decidable (NumsOk kind l) := by unfold NumsOk; infer_instance

def MayS (s : St) : Prop := 0 <= s.eng ∧ s.eng <= 2 ∧ (s.shut = false -> s.eng = 0) ∧ 0 <= s.kind ∧ s.kind < 6 ∧ NumsOk s.kind s.L

instance (s : St) : Decidable (MayS s) := by unfold MayS; infer_instance

def FitsO (o : Opn) : Prop := 0 <= o.code ∧ o.code <= 10 ∧ -1099511627776 <= o.a ∧ o.a <= 1099511627776 ∧ -1099511627776 <= o.b ∧ o.b <= 1099511627776

instance (o : Opn) : Decidable (FitsO o) := by unfold FitsO; infer_instance

def startS (kind : Int) : St := if kind < 0 ∨ 6 <= kind then ⟨0, [], false, 0⟩ else ⟨kind, if kind <= 1 then [0] else [], false, 0⟩

def findF (key : Int) : Nat -> List Int -> Int
 | k, a :: _ :: r => if a = key then (k : Int) else findF key (k + 2) r
 | _, _ => -1

def withF (key n : Int) : Bool -> List Int -> List Int
 | done, a :: b :: r => (if done = false ∧ key <= a then [key, n] else []) ++ ((if a ≠ key then [a, b] else []) ++ withF key n (done || decide (key <= a)) r)
 | done, _ => if done then [] else [key, n]

def withoutF (key : Int) : List Int -> List Int
 | a :: b :: r => (if a ≠ key then [a, b] else []) ++ withoutF key r
 | _ => []

theorem drop_pair (l : List Int) (k : Nat) (h : k + 1 < l.length) : l.drop k = l.getD k 0 :: l.getD (k + 1) 0 :: l.drop (k + 2) := by
 rw [List.drop_eq_getElem_cons (show k < l.length by omega), List.drop_eq_getElem_cons h]
 simp [List.getD, h, show k < l.length by omega]

theorem withF_length (key n : Int) : ∀ (l : List Int) (done : Bool), (withF key n done l).length <= l.length + 2
 | [], done => by unfold withF; split <;> simp
 | [a], done => by unfold withF; split <;> simp
 | a :: b :: r, done => by
   have ih := withF_length key n r (done || decide (key <= a))
   unfold withF
   have h1 : (if done = false ∧ key <= a then [key, n] else ([] : List Int)).length + (withF key n (done || decide (key <= a)) r).length <= r.length + 2 := by
     by_cases h : done = false ∧ key <= a
     · rw [if_pos h]
       have e : (done || decide (key <= a)) = true := by simp [h.2]
       rw [e]
       have h2 := withF_true key n r
       simp
       omega
     · rw [if_neg h]
       simpa using ih
   have h2 : (if a ≠ key then [a, b] else ([] : List Int)).length <= 2 := by split <;> simp
   simp only [List.length_append, List.length_cons]
   omega
where
 withF_true (key n : Int) : ∀ (l : List Int), (withF key n true l).length <= l.length
 | [] => by simp [withF]
 | [a] => by simp [withF]
 | a :: b :: r => by
   have ih := withF_true key n r
   unfold withF
   simp only [Bool.true_or]
   split <;> split <;> simp_all <;> omega

def oneS (s : St) (o : Opn) : St × Int :=
 if s.kind = 0 ∧ o.code = 1 then (⟨s.kind, [cutZ (s.L.getD 0 0 + cutZ o.a)], s.shut, s.eng⟩, s.L.getD 0 0) else
 if s.kind = 1 ∧ o.code = 2 then (⟨s.kind, [cutZ o.a], s.shut, s.eng⟩, s.L.getD 0 0) else
 if o.code = 7 then (s, s.L.getD 0 0) else (s, 0)

def listS (s : St) (o : Opn) : St × Int :=
 if o.code = 3 then (if s.L.length = 64 then (s, -1) else (⟨s.kind, s.L ++ [cutZ o.a], s.shut, s.eng⟩, (s.L.length : Int) + 1)) else
 if o.code = 4 then (if s.L.length = 0 then (s, -1) else if s.kind = 2 then (⟨s.kind, s.L.drop 1, s.shut, s.eng⟩, s.L.getD 0 0) else (⟨s.kind, s.L.take (s.L.length - 1), s.shut, s.eng⟩, s.L.getD (s.L.length - 1) 0)) else
 if o.code = 7 then (s, (s.L.length : Int)) else (s, 0)

def hadF (key : Int) (l : List Int) : Int := if 0 <= findF key 0 l then l.getD ((findF key 0 l).toNat + 1) 0 else -1

def storeS (s : St) (o : Opn) : St × Int :=
 if o.code ≠ 7 ∧ o.code ≠ 6 ∧ o.code ≠ 5 then (s, 0) else
 if o.a < 0 ∨ 255 < o.a then (s, -1) else
 if o.code = 6 then (⟨s.kind, withoutF o.a s.L, s.shut, s.eng⟩, hadF o.a s.L) else
 if o.code = 5 then (if findF o.a 0 s.L < 0 ∧ s.L.length = 128 then (s, -2) else (⟨s.kind, withF o.a (cutZ o.b) false s.L, s.shut, s.eng⟩, hadF o.a s.L)) else
 (s, hadF o.a s.L)

def hasF (key : Int) (l : List Int) : Int := if 0 <= findF key 0 l then l.getD ((findF key 0 l).toNat + 1) 0 else 0

def moveS (s : St) (o : Opn) : St × Int :=
 if o.a < 0 ∨ 65535 < o.a ∨ o.b < 0 then (s, 0) else
 if findF (o.a / 256) 0 s.L < 0 ∨ hasF (o.a / 256) s.L < o.b then (s, 0) else
 if o.a / 256 = o.a % 256 then (s, 1) else
 if (findF (o.a % 256) 0 s.L < 0 ∧ s.L.length = 128) ∨ 1099511627776 < hasF (o.a % 256) s.L + o.b then (s, 0) else
 (⟨s.kind, withF (o.a % 256) (hasF (o.a % 256) s.L + o.b) false (withF (o.a / 256) (hasF (o.a / 256) s.L - o.b) false s.L), s.shut, s.eng⟩, 1)

def ledgerS (s : St) (o : Opn) : St × Int :=
 if o.code = 9 then moveS s o else
 if o.code ≠ 7 ∧ o.code ≠ 8 then (s, 0) else
 if o.a < 0 ∨ 255 < o.a then (s, -1) else
 if o.code = 7 then (s, hadF o.a s.L) else
 if o.b < 0 then (s, -1) else
 if findF o.a 0 s.L < 0 ∧ s.L.length = 128 then (s, -2) else
 (⟨s.kind, withF o.a (cutZ (hasF o.a s.L + cutZ o.b)) false s.L, s.shut, s.eng⟩, cutZ (hasF o.a s.L + cutZ o.b))

def stepS (s : St) (o : Opn) : St × Int :=
 if ¬ MayS s then (s, 0) else
 if s.shut = true then (s, -1125899906842624) else
 if o.code = 10 then (⟨s.kind, s.L, true, if 0 <= o.a ∧ o.a <= 2 then o.a else s.eng⟩, 0) else
 if s.kind <= 1 then oneS s o else if s.kind <= 3 then listS s o else if s.kind = 4 then storeS s o else ledgerS s o

def Pairs (least : Int) : Int -> List Int -> Prop
 | lo, a :: b :: r => lo < a ∧ a <= 255 ∧ least <= b ∧ b <= 1099511627776 ∧ Pairs least a r
 | _, [] => True
 | _, [_] => False

def PairFrom (least lo : Int) (l : List Int) (k : Nat) : Prop :=
 (if k = 0 then lo else l.getD (k - 2) 0) < l.getD k 0 ∧ l.getD k 0 <= 255 ∧ least <= l.getD (k + 1) 0 ∧ l.getD (k + 1) 0 <= 1099511627776

theorem pairFrom_tail (least lo a b : Int) (r : List Int) (k : Nat) (hk : k % 2 = 0) : PairFrom least lo (a :: b :: r) (k + 2) ↔ PairFrom least a r k := by
 unfold PairFrom
 rw [if_neg (by omega)]
 by_cases h0 : k = 0
 · subst h0
   rw [if_pos rfl]
   exact Iff.rfl
 · rw [if_neg h0]
   obtain ⟨j, rfl⟩ : ∃ j, k = j + 2 := ⟨k - 2, by omega⟩
   exact Iff.rfl

theorem pairs_from (least : Int) : ∀ (l : List Int) (lo : Int), Pairs least lo l ↔ l.length % 2 = 0 ∧ ∀ k, k < l.length -> k % 2 = 0 -> PairFrom least lo l k
 | [], lo => by simp [Pairs]
 | [a], lo => by simp [Pairs]
 | a :: b :: r, lo => by
   have ih := pairs_from least r a
   unfold Pairs
   rw [ih]
   constructor
   · rintro ⟨h1, h2, h3, h4, h5, h6⟩
     refine ⟨by simp; omega, fun k hk hk2 => ?_⟩
     by_cases h0 : k = 0
     · subst h0
       exact ⟨by rw [if_pos rfl]; exact h1, h2, h3, h4⟩
     · obtain ⟨j, rfl⟩ : ∃ j, k = j + 2 := ⟨k - 2, by omega⟩
       rw [pairFrom_tail least lo a b r j (by omega)]
       exact h6 j (by simp at hk; omega) (by omega)
   · rintro ⟨h1, h2⟩
     have h0 := h2 0 (by simp) rfl
     unfold PairFrom at h0
     rw [if_pos rfl] at h0
     refine ⟨h0.1, h0.2.1, h0.2.2.1, h0.2.2.2, by simp at h1; omega, fun k hk hk2 => ?_⟩
     rw [<- pairFrom_tail least lo a b r k hk2]
     exact h2 (k + 2) (by simp; omega) (by omega)

theorem pairs_above (least : Int) : ∀ (l : List Int) (lo : Int) (k : Nat), Pairs least lo l -> k < l.length -> k % 2 = 0 -> lo < l.getD k 0
 | [], _, _, _, hk, _ => by simp at hk
 | [a], _, _, h, _, _ => by simp [Pairs] at h
 | a :: b :: r, lo, k, h, hk, hk2 => by
   unfold Pairs at h
   by_cases h0 : k = 0
   · subst h0
     exact h.1
   · obtain ⟨j, rfl⟩ : ∃ j, k = j + 2 := ⟨k - 2, by omega⟩
     have := pairs_above least r a j h.2.2.2.2 (by simp at hk; omega) (by omega)
     have e : (a :: b :: r).getD (j + 2) 0 = r.getD j 0 := rfl
     rw [e]
     have := h.1
     omega

theorem pairsOk_iff (least : Int) (l : List Int) : PairsOk least l ↔ l.length <= 128 ∧ Pairs least (-1) l := by
 constructor
 · rintro ⟨h1, h2, h3⟩
   refine ⟨h2, (pairs_from least l (-1)).2 ⟨h1, fun k hk hk2 => ?_⟩⟩
   obtain ⟨g1, g2, g3, g4, g5⟩ := h3 k hk hk2
   refine ⟨?_, g2, g4, g5⟩
   split
   · omega
   · exact g3 (by omega)
 · rintro ⟨h1, h2⟩
   have h3 := (pairs_from least l (-1)).1 h2
   refine ⟨h3.1, h1, fun k hk hk2 => ?_⟩
   obtain ⟨g1, g2, g3, g4⟩ := h3.2 k hk hk2
   have g5 := pairs_above least l (-1) k h2 hk hk2
   refine ⟨by omega, g2, fun h => ?_, g3, g4⟩
   rwa [if_neg (by omega)] at g1

theorem pairs_even {least : Int} {l : List Int} {lo : Int} (h : Pairs least lo l) : l.length % 2 = 0 := ((pairs_from least l lo).1 h).1

def getP (key : Int) : List Int -> Option Int
 | a :: b :: r => if a = key then some b else getP key r
 | _ => none

theorem getP_cons (key a b : Int) (r : List Int) : getP key (a :: b :: r) = if a = key then some b else getP key r := rfl

theorem findF_get (key : Int) : ∀ (l : List Int) (k : Nat), (findF key k l = -1 ∧ getP key l = none) ∨ (∃ j, findF key k l = ((k + j : Nat) : Int) ∧ j + 1 < l.length ∧ getP key l = some (l.getD (j + 1) 0) ∧ l.getD j 0 = key)
 | [], _ => .inl ⟨rfl, rfl⟩
 | [_], _ => .inl ⟨rfl, rfl⟩
 | a :: b :: r, k => by
   by_cases h : a = key
   · right
     refine ⟨0, by unfold findF; rw [if_pos h]; rfl, by simp, by unfold getP; rw [if_pos h]; rfl, h⟩
   · rcases findF_get key r (k + 2) with ⟨h1, h2⟩ | ⟨j, h1, h2, h3, h4⟩
     · left
       exact ⟨by unfold findF; rw [if_neg h]; exact h1, by unfold getP; rw [if_neg h]; exact h2⟩
     · right
       refine ⟨j + 2, ?_, by simp; omega, ?_, h4⟩
       · unfold findF
         rw [if_neg h, h1]
         congr 1
         omega
       · unfold getP
         rw [if_neg h, h3]
         rfl

theorem find_none (key : Int) (l : List Int) : findF key 0 l < 0 ↔ getP key l = none := by
 rcases findF_get key l 0 with ⟨h1, h2⟩ | ⟨j, h1, h2, h3, h4⟩
 · rw [h1, h2]
   simp
 · rw [h1, h3]
   simp

theorem had_get (key : Int) (l : List Int) : hadF key l = (getP key l).getD (-1) := by
 unfold hadF
 rcases findF_get key l 0 with ⟨h1, h2⟩ | ⟨j, h1, h2, h3, h4⟩
 · rw [h1, h2, if_neg (by omega)]
   rfl
 · rw [h1, h3, if_pos (by omega)]
   simp

theorem has_get (key : Int) (l : List Int) : hasF key l = (getP key l).getD 0 := by
 unfold hasF
 rcases findF_get key l 0 with ⟨h1, h2⟩ | ⟨j, h1, h2, h3, h4⟩
 · rw [h1, h2, if_neg (by omega)]
   rfl
 · rw [h1, h3, if_pos (by omega)]
   simp

theorem getP_above {least : Int} {key : Int} : ∀ {l : List Int} {lo : Int}, Pairs least lo l -> key <= lo -> getP key l = none
 | [], _, _, _ => rfl
 | [_], _, h, _ => by simp [Pairs] at h
 | a :: b :: r, lo, h, hk => by
   unfold Pairs at h
   unfold getP
   rw [if_neg (by omega)]
   exact getP_above h.2.2.2.2 (by omega)

theorem getP_in {least : Int} {key v : Int} : ∀ {l : List Int} {lo : Int}, Pairs least lo l -> getP key l = some v -> lo < key ∧ key <= 255 ∧ least <= v ∧ v <= 1099511627776
 | [], _, _, h => by simp [getP] at h
 | [_], _, h, _ => by simp [Pairs] at h
 | a :: b :: r, lo, h, hg => by
   unfold Pairs at h
   unfold getP at hg
   by_cases e : a = key
   · rw [if_pos e] at hg
     injection hg with hg
     omega
   · rw [if_neg e] at hg
     have := getP_in h.2.2.2.2 hg
     omega

theorem withF_done (key n least : Int) : ∀ (l : List Int) (lo : Int), Pairs least lo l -> key <= lo -> withF key n true l = l
 | [], _, _, _ => rfl
 | [_], _, h, _ => by simp [Pairs] at h
 | a :: b :: r, lo, h, hk => by
   unfold Pairs at h
   unfold withF
   rw [if_neg (by simp), if_pos (by omega), Bool.true_or, withF_done key n least r a h.2.2.2.2 (by omega)]
   rfl

theorem withF_cons (key n least a b : Int) (r : List Int) (lo : Int) (h : Pairs least lo (a :: b :: r)) :
   withF key n false (a :: b :: r) = if key < a then key :: n :: a :: b :: r else if key = a then key :: n :: r else a :: b :: withF key n false r := by
 unfold Pairs at h
 conv => lhs; unfold withF
 by_cases h1 : key < a
 · rw [if_pos h1, if_pos ⟨rfl, by omega⟩, if_pos (by omega), decide_eq_true (by omega), Bool.false_or, withF_done key n least r a h.2.2.2.2 (by omega)]
   rfl
 · rw [if_neg h1]
   by_cases h2 : key = a
   · rw [if_pos h2, if_pos ⟨rfl, by omega⟩, if_neg (by omega), decide_eq_true (by omega), Bool.false_or, withF_done key n least r a h.2.2.2.2 (by omega)]
     rfl
   · rw [if_neg h2, if_neg (by omega), if_pos (by omega), decide_eq_false (by omega), Bool.false_or]
     rfl

theorem withF_pairs (key n least : Int) (hn0 : least <= n) (hn1 : n <= 1099511627776) (hk : key <= 255) : ∀ (l : List Int) (lo : Int), Pairs least lo l -> lo < key -> Pairs least lo (withF key n false l)
 | [], lo, _, hlo => by
   simp [withF, Pairs]
   omega
 | [_], _, h, _ => by simp [Pairs] at h
 | a :: b :: r, lo, h, hlo => by
   have ih := withF_pairs key n least hn0 hn1 hk r a
   rw [withF_cons key n least a b r lo h]
   unfold Pairs at h
   split
   · unfold Pairs
     refine ⟨hlo, hk, hn0, hn1, ?_⟩
     unfold Pairs
     exact ⟨by assumption, h.2⟩
   · split
     · rename_i e
       subst e
       unfold Pairs
       exact ⟨hlo, hk, hn0, hn1, h.2.2.2.2⟩
     · unfold Pairs
       exact ⟨h.1, h.2.1, h.2.2.1, h.2.2.2.1, ih h.2.2.2.2 (by omega)⟩

theorem withF_len (key n least : Int) : ∀ (l : List Int) (lo : Int), Pairs least lo l -> (withF key n false l).length = if getP key l = none then l.length + 2 else l.length
 | [], lo, _ => by simp [withF, getP]
 | [_], _, h => by simp [Pairs] at h
 | a :: b :: r, lo, h => by
   have ih := withF_len key n least r a
   rw [withF_cons key n least a b r lo h]
   unfold Pairs at h
   by_cases h1 : key < a
   · have e : getP key (a :: b :: r) = none := by rw [getP_cons, if_neg (by omega), getP_above h.2.2.2.2 (by omega)]
     rw [if_pos h1, if_pos e]
     simp
   · rw [if_neg h1]
     by_cases h2 : key = a
     · have e : getP key (a :: b :: r) ≠ none := by rw [getP_cons, if_pos h2.symm]; simp
       rw [if_pos h2, if_neg e]
       simp
     · have e : getP key (a :: b :: r) = getP key r := by rw [getP_cons, if_neg (by omega)]
       rw [if_neg h2, e]
       have := ih h.2.2.2.2
       simp only [List.length_cons, this]
       by_cases e2 : getP key r = none
       · rw [if_pos e2, if_pos e2]
       · rw [if_neg e2, if_neg e2]

theorem withF_get (key n least : Int) : ∀ (l : List Int) (lo : Int), Pairs least lo l -> ∀ k, getP k (withF key n false l) = if k = key then some n else getP k l
 | [], lo, _, k => by
   simp [withF, getP, eq_comm]
 | [_], _, h, _ => by simp [Pairs] at h
 | a :: b :: r, lo, h, k => by
   have ih := withF_get key n least r a
   rw [withF_cons key n least a b r lo h]
   unfold Pairs at h
   by_cases h1 : key < a
   · rw [if_pos h1]
     by_cases e : k = key
     · subst e
       rw [if_pos rfl, getP, if_pos rfl]
     · rw [if_neg e, getP, if_neg (by omega)]
   · rw [if_neg h1]
     by_cases h2 : key = a
     · rw [if_pos h2]
       subst h2
       by_cases e : k = key
       · subst e
         rw [if_pos rfl, getP, if_pos rfl]
       · rw [if_neg e, getP, if_neg (by omega), getP, if_neg (by omega)]
     · rw [if_neg h2]
       by_cases e : k = key
       · subst e
         rw [if_pos rfl, getP, if_neg (by omega), ih h.2.2.2.2 k, if_pos rfl]
       · rw [if_neg e, getP]
         conv => rhs; rw [getP]
         rw [ih h.2.2.2.2 k, if_neg e]

theorem withoutF_cons (key a b : Int) (r : List Int) : withoutF key (a :: b :: r) = if a ≠ key then a :: b :: withoutF key r else withoutF key r := by
 rw [withoutF]
 split <;> rfl

theorem withoutF_pairs (key least : Int) : ∀ (l : List Int) (lo : Int), Pairs least lo l -> Pairs least lo (withoutF key l)
 | [], _, _ => by simp [withoutF, Pairs]
 | [_], _, h => by simp [Pairs] at h
 | a :: b :: r, lo, h => by
   have ih := withoutF_pairs key least r
   rw [withoutF_cons]
   unfold Pairs at h
   split
   · unfold Pairs
     exact ⟨h.1, h.2.1, h.2.2.1, h.2.2.2.1, ih a h.2.2.2.2⟩
   · exact lower (ih a h.2.2.2.2) (by omega)
where
 lower {least lo lo' : Int} : ∀ {l : List Int}, Pairs least lo l -> lo' <= lo -> Pairs least lo' l
 | [], _, _ => trivial
 | [_], h, _ => by simp [Pairs] at h
 | a :: b :: r, h, hl => by
   unfold Pairs at h ⊢
   exact ⟨by omega, h.2⟩

theorem withoutF_length (key : Int) : ∀ (l : List Int), (withoutF key l).length <= l.length
 | [] => by simp [withoutF]
 | [_] => by simp [withoutF]
 | a :: b :: r => by
   have ih := withoutF_length key r
   rw [withoutF_cons]
   split <;> simp <;> omega

def sumP : List Int -> Int
 | _ :: b :: r => b + sumP r
 | _ => 0

theorem withF_sum (key n least : Int) : ∀ (l : List Int) (lo : Int), Pairs least lo l -> sumP (withF key n false l) = sumP l + n - (getP key l).getD 0
 | [], lo, _ => by simp [withF, getP, sumP]
 | [_], _, h => by simp [Pairs] at h
 | a :: b :: r, lo, h => by
   have ih := withF_sum key n least r a
   rw [withF_cons key n least a b r lo h]
   unfold Pairs at h
   by_cases h1 : key < a
   · rw [if_pos h1, getP, if_neg (by omega), getP_above h.2.2.2.2 (by omega)]
     simp [sumP]
     omega
   · rw [if_neg h1]
     by_cases h2 : key = a
     · rw [if_pos h2, getP, if_pos h2.symm]
       simp [sumP]
       omega
     · rw [if_neg h2, getP, if_neg (by omega), sumP, ih h.2.2.2.2]
       simp [sumP]
       omega

theorem inBounds_iff (l : List Int) : InBounds l ↔ ∀ x ∈ l, -1099511627776 <= x ∧ x <= 1099511627776 := by
 unfold InBounds
 constructor
 · intro h x hx
   obtain ⟨j, hj, rfl⟩ := List.getElem_of_mem hx
   have := h j hj
   simpa [List.getD, hj] using this
 · intro h j hj
   have := h l[j] (List.getElem_mem hj)
   simpa [List.getD, hj] using this

theorem numsOk_list {kind : Int} {l : List Int} (h4 : kind ≠ 4) (h5 : kind ≠ 5) : NumsOk kind l ↔ l.length <= 64 ∧ (kind <= 1 -> l.length = 1) ∧ InBounds l := by
 unfold NumsOk
 rw [if_neg h4, if_neg h5]

theorem numsOk_4 (l : List Int) : NumsOk 4 l ↔ l.length <= 128 ∧ Pairs (-1099511627776) (-1) l := by
 unfold NumsOk
 rw [if_pos rfl]
 exact pairsOk_iff _ _

theorem numsOk_5 (l : List Int) : NumsOk 5 l ↔ l.length <= 128 ∧ Pairs 0 (-1) l := by
 unfold NumsOk
 rw [if_neg (by decide), if_pos rfl]
 exact pairsOk_iff _ _

theorem may_with {s : St} (h : MayS s) {L : List Int} (hL : NumsOk s.kind L) : MayS ⟨s.kind, L, s.shut, s.eng⟩ :=
 ⟨h.1, h.2.1, h.2.2.1, h.2.2.2.1, h.2.2.2.2.1, hL⟩

theorem one_may {s : St} (h : MayS s) (hk : s.kind <= 1) (o : Opn) : MayS (oneS s o).1 := by
 have h0 := h.2.2.2.1
 have one : ∀ x : Int, NumsOk s.kind [cutZ x] := fun x => (numsOk_list (by omega) (by omega)).2 ⟨by simp, fun _ => rfl, (inBounds_iff _).2 (fun y hy => by rw [List.mem_singleton.1 hy]; exact cutZ_in x)⟩
 unfold oneS
 split
 · exact may_with h (one _)
 split
 · exact may_with h (one _)
 split
 · exact h
 · exact h

theorem list_may {s : St} (h : MayS s) (hk : ¬ s.kind <= 1) (hk3 : s.kind <= 3) (o : Opn) : MayS (listS s o).1 := by
 have hn := (numsOk_list (by omega) (by omega)).1 h.2.2.2.2.2
 have hb := (inBounds_iff _).1 hn.2.2
 unfold listS
 split
 · split
   · exact h
   · refine may_with h ((numsOk_list (by omega) (by omega)).2 ⟨?_, fun e => absurd e hk, (inBounds_iff _).2 fun x hx => ?_⟩)
     · have := hn.1
       simp
       omega
     · rcases List.mem_append.1 hx with hx | hx
       · exact hb x hx
       · rw [List.mem_singleton.1 hx]; exact cutZ_in _
 split
 · split
   · exact h
   split
   · refine may_with h ((numsOk_list (by omega) (by omega)).2 ⟨?_, fun e => absurd e hk, (inBounds_iff _).2 fun x hx => hb x (List.mem_of_mem_drop hx)⟩)
     have := hn.1
     simp
     omega
   · refine may_with h ((numsOk_list (by omega) (by omega)).2 ⟨?_, fun e => absurd e hk, (inBounds_iff _).2 fun x hx => hb x (List.mem_of_mem_take hx)⟩)
     have := hn.1
     simp
     omega
 split
 · exact h
 · exact h

theorem with_ok {least : Int} {l : List Int} (hl : l.length <= 128) (hp : Pairs least (-1) l) {key n : Int} (hk0 : 0 <= key) (hk1 : key <= 255) (hn0 : least <= n) (hn1 : n <= 1099511627776) (hf : ¬ (findF key 0 l < 0 ∧ l.length = 128)) :
   (withF key n false l).length <= 128 ∧ Pairs least (-1) (withF key n false l) := by
 refine ⟨?_, withF_pairs key n least hn0 hn1 hk1 l (-1) hp (by omega)⟩
 rw [withF_len key n least l (-1) hp]
 have he := pairs_even hp
 rw [find_none] at hf
 split
 · rename_i h
   have : l.length ≠ 128 := fun e => hf ⟨h, e⟩
   omega
 · exact hl

theorem store_may {s : St} (h : MayS s) (hk : s.kind = 4) (o : Opn) : MayS (storeS s o).1 := by
 have hn := h.2.2.2.2.2
 rw [hk, numsOk_4] at hn
 unfold storeS
 split
 · exact h
 split
 · exact h
 split
 · refine may_with h ?_
   rw [hk, numsOk_4]
   refine ⟨?_, withoutF_pairs _ _ _ _ hn.2⟩
   have := withoutF_length o.a s.L
   omega
 split
 · split
   · exact h
   · refine may_with h ?_
     rw [hk, numsOk_4]
     exact with_ok hn.1 hn.2 (by omega) (by omega) (cutZ_in _).1 (cutZ_in _).2 (by assumption)
 · exact h

theorem has_bounds {l : List Int} (hp : Pairs 0 (-1) l) (key : Int) : 0 <= hasF key l ∧ hasF key l <= 1099511627776 := by
 rw [has_get]
 cases h : getP key l with
 | none => simp
 | some v =>
   have := getP_in hp h
   exact ⟨this.2.2.1, this.2.2.2⟩

theorem move_lists {l : List Int} (hl : l.length <= 128) (hp : Pairs 0 (-1) l) (fr dst b : Int) (hf0 : 0 <= fr) (hf1 : fr <= 255) (hd0 : 0 <= dst) (hd1 : dst <= 255) (hb : 0 <= b) (h2 : ¬ (findF fr 0 l < 0 ∨ hasF fr l < b)) (h3 : ¬ fr = dst)
   (h4 : ¬ ((findF dst 0 l < 0 ∧ l.length = 128) ∨ 1099511627776 < hasF dst l + b)) :
   (withF dst (hasF dst l + b) false (withF fr (hasF fr l - b) false l)).length <= 128 ∧
   Pairs 0 (-1) (withF dst (hasF dst l + b) false (withF fr (hasF fr l - b) false l)) ∧
   sumP (withF dst (hasF dst l + b) false (withF fr (hasF fr l - b) false l)) = sumP l := by
 have b1 := has_bounds hp fr
 have b2 := has_bounds hp dst
 have hg : getP fr l ≠ none := fun e => h2 (.inl ((find_none _ _).2 e))
 have hle : ¬ hasF fr l < b := fun e => h2 (.inr e)
 have p1 : Pairs 0 (-1) (withF fr (hasF fr l - b) false l) := withF_pairs _ _ _ (by omega) (by omega) hf1 _ _ hp (by omega)
 have l1 : (withF fr (hasF fr l - b) false l).length = l.length := by rw [withF_len _ _ _ _ _ hp, if_neg hg]
 have s1 := withF_sum fr (hasF fr l - b) 0 l (-1) hp
 have g1 : getP dst (withF fr (hasF fr l - b) false l) = getP dst l := by rw [withF_get _ _ _ _ _ hp, if_neg (fun e => h3 e.symm)]
 have l2 := withF_len dst (hasF dst l + b) 0 _ (-1) p1
 have s2 := withF_sum dst (hasF dst l + b) 0 _ (-1) p1
 rw [g1, l1] at l2
 rw [g1, s1, <- has_get, <- has_get] at s2
 refine ⟨?_, withF_pairs _ _ _ (by omega) (by omega) hd1 _ _ p1 (by omega), by rw [s2]; omega⟩
 rw [l2]
 have he := pairs_even hp
 split
 · rename_i h
   have : l.length ≠ 128 := fun e => h4 (.inl ⟨(find_none _ _).2 h, e⟩)
   omega
 · exact hl

theorem move_may {s : St} (h : MayS s) (hk : s.kind = 5) (o : Opn) : MayS (moveS s o).1 ∧ sumP (moveS s o).1.L = sumP s.L ∧ ((moveS s o).2 ≠ 1 -> (moveS s o).1 = s) ∧ (moveS s o).1.kind = s.kind ∧ (moveS s o).1.shut = s.shut := by
 have hn := h.2.2.2.2.2
 rw [hk, numsOk_5] at hn
 unfold moveS
 split
 · exact ⟨h, rfl, fun _ => rfl, rfl, rfl⟩
 split
 · exact ⟨h, rfl, fun _ => rfl, rfl, rfl⟩
 split
 · exact ⟨h, rfl, fun _ => rfl, rfl, rfl⟩
 split
 · exact ⟨h, rfl, fun _ => rfl, rfl, rfl⟩
 · have := move_lists hn.1 hn.2 (o.a / 256) (o.a % 256) o.b (by omega) (by omega) (by omega) (by omega) (by omega) (by assumption) (by assumption) (by assumption)
   refine ⟨may_with h ?_, this.2.2, fun e => absurd rfl e, rfl, rfl⟩
   rw [hk, numsOk_5]
   exact ⟨this.1, this.2.1⟩

theorem ledger_may {s : St} (h : MayS s) (hk : s.kind = 5) (o : Opn) : MayS (ledgerS s o).1 := by
 have hn := h.2.2.2.2.2
 rw [hk, numsOk_5] at hn
 unfold ledgerS
 split
 · exact (move_may h hk o).1
 split
 · exact h
 split
 · exact h
 split
 · exact h
 split
 · exact h
 split
 · exact h
 · refine may_with h ?_
   rw [hk, numsOk_5]
   have b1 := has_bounds hn.2 o.a
   have b2 := cutZ_in o.b
   have b3 : 0 <= cutZ o.b := by
     unfold cutZ
     split
     · omega
     · split <;> omega
   have b4 : 0 <= cutZ (hasF o.a s.L + cutZ o.b) := by
     unfold cutZ
     split
     · have := b3; unfold cutZ at this; omega
     · split
       · omega
       · have := b3; unfold cutZ at this; omega
   exact with_ok hn.1 hn.2 (by omega) (by omega) b4 (cutZ_in _).2 (by assumption)

theorem one_kind (s : St) (o : Opn) : (oneS s o).1.kind = s.kind ∧ (oneS s o).1.shut = s.shut ∧ (oneS s o).1.eng = s.eng := by
 unfold oneS
 repeat' split
 all_goals exact ⟨rfl, rfl, rfl⟩

theorem list_kind (s : St) (o : Opn) : (listS s o).1.kind = s.kind ∧ (listS s o).1.shut = s.shut ∧ (listS s o).1.eng = s.eng := by
 unfold listS
 repeat' split
 all_goals exact ⟨rfl, rfl, rfl⟩

theorem store_kind (s : St) (o : Opn) : (storeS s o).1.kind = s.kind ∧ (storeS s o).1.shut = s.shut ∧ (storeS s o).1.eng = s.eng := by
 unfold storeS
 repeat' split
 all_goals exact ⟨rfl, rfl, rfl⟩

theorem ledger_kind (s : St) (o : Opn) : (ledgerS s o).1.kind = s.kind ∧ (ledgerS s o).1.shut = s.shut ∧ (ledgerS s o).1.eng = s.eng := by
 unfold ledgerS moveS
 repeat' split
 all_goals exact ⟨rfl, rfl, rfl⟩

theorem step_shut {s : St} (h : MayS s) (hs : s.shut = true) (o : Opn) : stepS s o = (s, -1125899906842624) := by
 unfold stepS
 rw [if_neg (fun e => e h), if_pos hs]

theorem step_seal {s : St} (h : MayS s) (hs : s.shut = false) (o : Opn) (hc : o.code = 10) : stepS s o = (⟨s.kind, s.L, true, if 0 <= o.a ∧ o.a <= 2 then o.a else s.eng⟩, 0) := by
 unfold stepS
 rw [if_neg (fun e => e h), if_neg (by simp [hs]), if_pos hc]

theorem step_not {s : St} (h : ¬ MayS s) (o : Opn) : stepS s o = (s, 0) := by
 unfold stepS
 rw [if_pos h]

theorem step_open {s : St} (h : MayS s) (hs : s.shut = false) (o : Opn) (hc : o.code ≠ 10) : stepS s o = if s.kind <= 1 then oneS s o else if s.kind <= 3 then listS s o else if s.kind = 4 then storeS s o else ledgerS s o := by
 unfold stepS
 rw [if_neg (fun e => e h), if_neg (by simp [hs]), if_neg hc]

theorem step_kind (s : St) (o : Opn) : (stepS s o).1.kind = s.kind := by
 unfold stepS
 split
 · rfl
 split
 · rfl
 split
 · rfl
 split
 · exact (one_kind s o).1
 split
 · exact (list_kind s o).1
 split
 · exact (store_kind s o).1
 · exact (ledger_kind s o).1

theorem step_shut' {s : St} (h : MayS s) (o : Opn) : (stepS s o).1.shut = (s.shut || decide (o.code = 10)) := by
 by_cases hs : s.shut = true
 · rw [step_shut h hs, hs]
   rfl
 · have hs' : s.shut = false := by simpa using hs
   by_cases hc : o.code = 10
   · rw [step_seal h hs' o hc, decide_eq_true hc]
     simp
   · rw [step_open h hs' o hc, decide_eq_false hc, hs']
     split
     · rw [(one_kind s o).2.1, hs']; rfl
     split
     · rw [(list_kind s o).2.1, hs']; rfl
     split
     · rw [(store_kind s o).2.1, hs']; rfl
     · rw [(ledger_kind s o).2.1, hs']; rfl

theorem step_may {s : St} (h : MayS s) (o : Opn) : MayS (stepS s o).1 := by
 by_cases hs : s.shut = true
 · rw [step_shut h hs]
   exact h
 · have hs' : s.shut = false := by simpa using hs
   by_cases hc : o.code = 10
   · rw [step_seal h hs' o hc]
     refine ⟨?_, ?_, (fun e => by cases e), h.2.2.2.1, h.2.2.2.2.1, h.2.2.2.2.2⟩
     · show 0 <= (if 0 <= o.a ∧ o.a <= 2 then o.a else s.eng)
       have := h.1
       split <;> omega
     · show (if 0 <= o.a ∧ o.a <= 2 then o.a else s.eng) <= 2
       have := h.2.1
       split <;> omega
   · rw [step_open h hs' o hc]
     have h0 := h.2.2.2.1
     have h5 := h.2.2.2.2.1
     split
     · exact one_may h (by assumption) o
     split
     · exact list_may h (by assumption) (by assumption) o
     split
     · exact store_may h (by assumption) o
     · exact ledger_may h (by omega) o

theorem ret_i {k : IntKind} {a b : Int} (h : a = b) : Ending.returned (.int k a) = .returned (.int k b) := by rw [h]

theorem ret_b {a b : Bool} (h : a = b) : Ending.returned (.bool a) = .returned (.bool b) := by rw [h]

def StV (w : World) (v : Value) (s : St) : Prop := ∃ vl, v = .agg #[.int .i64 s.kind, vl, .bool s.shut, .int .i64 s.eng] ∧ RdI w vl s.L ∧ I64 s.kind ∧ I64 s.eng

def opV (o : Opn) : Value := .agg #[.int .i64 o.code, .int .i64 o.a, .int .i64 o.b]

def OpOk (o : Opn) : Prop := I64 o.code ∧ I64 o.a ∧ I64 o.b

def SameS (a b : St) : Prop := a.kind = b.kind ∧ a.shut = b.shut ∧ a.eng = b.eng ∧ a.L = b.L

instance (a b : St) : Decidable (SameS a b) := by unfold SameS; infer_instance

def Stepped (w : World) (vl : Value) (L : List Int) (r : St × Int) (e : Ending) (w' : World) : Prop :=
 ∃ vl', e = .returned (.tuple #[.agg #[.int .i64 r.1.kind, vl', .bool r.1.shut, .int .i64 r.1.eng], .int .i64 r.2]) ∧ RdI w' vl' r.1.L ∧ I64 r.1.kind ∧ I64 r.1.eng ∧ ((vl' = vl ∧ r.1.L = L) ∨ ∀ b, vl'.ownBlock = some b -> w.heap.size <= b) ∧ Below w.heap.size w w'

def lval : Value -> Value
 | .agg ⟨[_, x, _, _]⟩ => x
 | v => v

theorem lval_agg (a x c d : Value) : lval (.agg #[a, x, c, d]) = x := rfl

theorem ownBlock_is {g off n c b : Nat} (h : (Value.slice (some ⟨g, off, none⟩) n c).ownBlock = some b) : b = g := by
 injection h with h
 exact h.symm

theorem Stepped.fresh {w w' : World} {vl vl' : Value} {L L' : List Int} {kind g : Int} {shut : Bool} (hr : RdI w' vl' L') (hki : I64 kind) (hti : I64 g) (n : Int) (hf : ∀ b, vl'.ownBlock = some b -> w.heap.size <= b) (hb : Below w.heap.size w w') :
   Stepped w vl L (⟨kind, L', shut, g⟩, n) (.returned (.tuple #[.agg #[.int .i64 kind, vl', .bool shut, .int .i64 g], .int .i64 n])) w' :=
 ⟨_, rfl, hr, hki, hti, .inr hf, hb⟩

theorem cut_i64 (n : Int) : I64 (cutZ n) := by
 have := cutZ_in n
 unfold I64
 omega

theorem RdI.one (w : World) (x : Int) (h : I64 x) : RdI (w.alloc (.cells #[.int .i64 x] 3)) (.slice (some ⟨w.heap.size, 0, none⟩) 1 1) [x] := by
 refine ⟨some ⟨w.heap.size, 0, none⟩, 1, rfl, Nat.le_refl _, by decide, (fun e => by cases e), ?_, .inr ⟨w.heap.size, 0, rfl, fun j hj => ?_⟩⟩
 · intro n hn
   simp at hn
   rw [hn]
   exact h
 · have e : j = 0 := by simpa using hj
   subst e
   rw [Nat.zero_add, cell_of_row _ w.heap.size 0 #[.int .i64 x] 3 (0, 0) (heap_alloc_new w _)]
   rfl

theorem size3 (w : World) (x y z : Obj) : (((w.alloc x).alloc y).alloc z).heap.size = w.heap.size + 1 + 1 + 1 := by simp

def Boxes (w : World) (B : Nat) (s o r : Array Value) : Prop :=
 w.heap[B]? = some (.cells s 38 (0, 0)) ∧ w.heap[B + 1]? = some (.cells o 52 (0, 0)) ∧ w.heap[B + 1 + 1]? = some (.cells r 38 (0, 0))

theorem Boxes.made (w : World) (s o r : Array Value) : Boxes (((w.alloc (.cells s 38)).alloc (.cells o 52)).alloc (.cells r 38)) w.heap.size s o r := by
 refine ⟨?_, ?_, ?_⟩
 · rw [Below.heap_alloc _ _ _ (by simp; omega), Below.heap_alloc _ _ _ (by simp)]
   exact heap_alloc_new w _
 · rw [Below.heap_alloc _ _ _ (by simp)]
   have h := heap_alloc_new (w.alloc (.cells s 38)) (.cells o 52)
   have e : (w.alloc (.cells s 38)).heap.size = w.heap.size + 1 := by simp
   rwa [e] at h
 · have h := heap_alloc_new ((w.alloc (.cells s 38)).alloc (.cells o 52)) (.cells r 38)
   have e : ((w.alloc (.cells s 38)).alloc (.cells o 52)).heap.size = w.heap.size + 1 + 1 := by simp
   rwa [e] at h

theorem Boxes.below {w w' : World} {B : Nat} {s o r : Array Value} {C : Nat} (h : Boxes w B s o r) (hb : Below C w w') (hC : B + 3 <= C) : Boxes w' B s o r := by
 obtain ⟨h1, h2, h3⟩ := h
 exact ⟨by rw [hb.block _ (by omega)]; exact h1, by rw [hb.block _ (by omega)]; exact h2, by rw [hb.block _ (by omega)]; exact h3⟩
-- 38

theorem Boxes.s {w : World} {B : Nat} {s o r : Array Value} (h : Boxes w B s o r) (j : Nat) : w.cell? ⟨B, j, none⟩ = s[j]? ∧ w.frozen? ⟨B, j, none⟩ = false :=
 ⟨cell_of_row w B j _ _ _ h.1, frozen_of_row w B j _ _ h.1⟩
-- 38

theorem Boxes.o {w : World} {B : Nat} {s o r : Array Value} (h : Boxes w B s o r) (j : Nat) : w.cell? ⟨B + 1, j, none⟩ = o[j]? ∧ w.frozen? ⟨B + 1, j, none⟩ = false :=
 ⟨cell_of_row w (B + 1) j _ _ _ h.2.1, frozen_of_row w (B + 1) j _ _ h.2.1⟩
-- 38

theorem Boxes.r {w : World} {B : Nat} {s o r : Array Value} (h : Boxes w B s o r) (j : Nat) : w.cell? ⟨B + 1 + 1, j, none⟩ = r[j]? ∧ w.frozen? ⟨B + 1 + 1, j, none⟩ = false :=
 ⟨cell_of_row w (B + 1 + 1) j _ _ _ h.2.2, frozen_of_row w (B + 1 + 1) j _ _ h.2.2⟩
-- 38

theorem OwnI.shape {w : World} {B : Nat} {v : Value} {l : List Int} (h : OwnI w B v l) : ∃ ao cap, v = .slice ao l.length cap := by
 rcases h.2 with ⟨hv, hn⟩ | ⟨g, cap, cur, hv, _⟩
 · exact ⟨none, 0, by rw [hv, hn]⟩
 · exact ⟨_, _, hv⟩

def wrote5 (w : World) (B R : Nat) (x0 x1 x2 x3 x4 : Value) : World :=
 ((((w.setCell ⟨B, 1, none⟩ x0).setCell ⟨R, 0, none⟩ x1).setCell ⟨R, 1, none⟩ x2).setCell ⟨R, 2, none⟩ x3).setCell ⟨R, 3, none⟩ x4

theorem OwnI.five {w : World} {C : Nat} {v : Value} {l : List Int} (h : OwnI w C v l) (B R : Nat) (hB : B < C) (hR : R < C) (x0 x1 x2 x3 x4 : Value) : OwnI (wrote5 w B R x0 x1 x2 x3 x4) C v l :=
 ownsRow_setCell_below (ownsRow_setCell_below (ownsRow_setCell_below (ownsRow_setCell_below (ownsRow_setCell_below h hB _) hR _) hR _) hR _) hR _

theorem belowFive {C : Nat} {w0 w : World} (h : Below C w0 w) (B R : Nat) (hB : C <= B) (hR : C <= R) (x0 x1 x2 x3 x4 : Value) : Below C w0 (wrote5 w B R x0 x1 x2 x3 x4) :=
 ((((h.setCell hB _).setCell hR _).setCell hR _).setCell hR _).setCell hR _

theorem belowFour {C : Nat} {w0 w : World} (h : Below C w0 w) (R : Nat) (hR : C <= R) (x1 x2 x3 x4 : Value) : Below C w0 ((((w.setCell ⟨R, 0, none⟩ x1).setCell ⟨R, 1, none⟩ x2).setCell ⟨R, 2, none⟩ x3).setCell ⟨R, 3, none⟩ x4) :=
 (((h.setCell hR _).setCell hR _).setCell hR _).setCell hR _

theorem i64_small {n : Int} (h0 : -2251799813685248 <= n) (h1 : n <= 2251799813685248) : I64 n := ⟨by omega, by omega⟩

structure But (R T : Nat) (w w' : World) : Prop where
 os : w'.os = w.os
 tape : w'.tape = w.tape
 output : w'.output = w.output
 size : w.heap.size <= w'.heap.size
 block : ∀ k, k < w.heap.size -> k ≠ R -> k ≠ T -> w'.heap[k]? = w.heap[k]?

theorem But.refl (R T : Nat) (w : World) : But R T w w := ⟨rfl, rfl, rfl, Nat.le_refl _, fun _ _ _ _ => rfl⟩

theorem But.set {R T : Nat} {w w' : World} (h : But R T w w') (b i : Nat) (hb : b = R ∨ b = T) (x : Value) : But R T w (w'.setCell ⟨b, i, none⟩ x) := by
 have hb0 := (Below.refl 0 w').setCell (p := ⟨b, i, none⟩) (Nat.zero_le _) x
 refine ⟨hb0.os.trans h.os, hb0.tape.trans h.tape, hb0.output.trans h.output, Nat.le_trans h.size hb0.size, fun k hk h1 h2 => ?_⟩
 rw [Below.heap_setCell _ _ _ _ (by rcases hb with rfl | rfl <;> assumption)]
 exact h.block k hk h1 h2

theorem below_but {N R T : Nat} {w wr w' : World} (h : Below N w wr) (hb : But R T wr w') (hN : N <= wr.heap.size) (hR : N <= R) (hT : N <= T) : Below N w w' :=
 ⟨hb.os.trans h.os, hb.tape.trans h.tape, hb.output.trans h.output, Nat.le_trans h.size hb.size, fun k hk => (hb.block k (by omega) (by omega) (by omega)).trans (h.block k hk)⟩

theorem But.four {R T : Nat} {w w' : World} (h : But R T w w') (b : Nat) (hb : b = R ∨ b = T) (x1 x2 x3 x4 : Value) : But R T w ((((w'.setCell ⟨b, 0, none⟩ x1).setCell ⟨b, 1, none⟩ x2).setCell ⟨b, 2, none⟩ x3).setCell ⟨b, 3, none⟩ x4) :=
 (((h.set b 0 hb x1).set b 1 hb x2).set b 2 hb x3).set b 3 hb x4

theorem RdI.block {w : World} {v : Value} {l : List Int} (h : RdI w v l) : l = [] ∨ (l ≠ [] ∧ ∃ b, v.ownBlock = some b ∧ b < w.heap.size) := by
 obtain ⟨ao, cap, h1, h2, h3, hn, hi, h4⟩ := h
 rcases h4 with h4 | ⟨b, off, h5, h6⟩
 · exact .inl h4
 · by_cases hl : l = []
   · exact .inl hl
   · right
     have h0 : 0 < l.length := List.length_pos_iff.2 hl
     exact ⟨hl, b, by rw [h1, h5]; rfl, World.block_lt_of_cell? w ⟨b, off + 0, none⟩ (h6 0 h0)⟩

theorem RdI.but {w w' : World} {v : Value} {l : List Int} (h : RdI w v l) {R T : Nat} (hb : But R T w w') (hn : l = [] ∨ ∀ b, v.ownBlock = some b -> b ≠ R ∧ b ≠ T) : RdI w' v l := by
 obtain ⟨ao, cap, h1, h2, h3, hn0, hi, h4⟩ := h
 refine ⟨ao, cap, h1, h2, h3, hn0, hi, ?_⟩
 rcases h4 with h4 | ⟨b, off, h5, h6⟩
 · exact .inl h4
 · rcases hn with hn | hn
   · exact .inl hn
   · refine .inr ⟨b, off, h5, fun j hj => ?_⟩
     obtain ⟨n1, n2⟩ := hn b (by rw [h1, h5]; rfl)
     have hlt := World.block_lt_of_cell? w ⟨b, off + j, none⟩ (h6 j hj)
     rw [<- h6 j hj]
     exact World.cell?_of_block (a := ⟨b, off + j, none⟩) (hb.block b hlt n1 n2)

theorem nums1 {kind g : Int} {l : List Int} {shut : Bool} (h : MayS ⟨kind, l, shut, g⟩) (hk : kind <= 1) : l.length = 1 ∧ -1099511627776 <= l.getD 0 0 ∧ l.getD 0 0 <= 1099511627776 := by
 have hn := (numsOk_list (kind := kind) (l := l) (by omega) (by omega)).1 h.2.2.2.2.2
 have h1 := hn.2.1 hk
 exact ⟨h1, hn.2.2 0 (by show 0 < l.length; omega)⟩

theorem nums2 {kind g : Int} {l : List Int} {shut : Bool} (h : MayS ⟨kind, l, shut, g⟩) (hk : kind <= 3) : l.length <= 64 :=
 ((numsOk_list (kind := kind) (l := l) (by omega) (by omega)).1 h.2.2.2.2.2).1

theorem pairs_mem : ∀ {l : List Int} {lo : Int}, -1 <= lo -> Pairs 0 lo l -> ∀ x ∈ l, 0 <= x ∧ x <= 1099511627776
 | [], _, _, _, x, hx => by simp at hx
 | [_], _, _, h, _, _ => by simp [Pairs] at h
 | a :: b :: r, lo, hlo, h, x, hx => by
   unfold Pairs at h
   have ih := pairs_mem (l := r) (lo := a) (by omega) h.2.2.2.2 x
   simp at hx
   rcases hx with rfl | rfl | hx
   · omega
   · omega
   · exact ih hx

theorem had_i64 {least : Int} {l : List Int} {lo : Int} (hl : -1099511627776 <= least) (hp : Pairs least lo l) (key : Int) : I64 (hadF key l) := by
 rw [had_get]
 cases h : getP key l with
 | none => exact i64_small (by decide) (by decide)
 | some v =>
   have := getP_in hp h
   show I64 v
   exact i64_small (by omega) (by omega)

theorem in_i64 {l : List Int} (h : InBounds l) (j : Nat) : I64 (l.getD j 0) := by
 by_cases hj : j < l.length
 · have := h j hj
   exact i64_small (by omega) (by omega)
 · have e : l.getD j 0 = 0 := by simp [List.getD, hj]
   rw [e]
   exact i64_small (by decide) (by decide)

theorem step_resp (s : St) (o : Opn) : I64 (stepS s o).2 := by
 have c0 : I64 0 := i64_small (by decide) (by decide)
 have c1 : I64 1 := i64_small (by decide) (by decide)
 have cm : I64 (-1) := i64_small (by decide) (by decide)
 have cn : I64 (-2) := i64_small (by decide) (by decide)
 by_cases hm : MayS s
 · by_cases hs : s.shut = true
   · rw [step_shut hm hs]
     exact (i64_small (by decide) (by decide) : I64 (-1125899906842624))
   · have hs' : s.shut = false := by simpa using hs
     by_cases hc : o.code = 10
     · rw [step_seal hm hs' o hc]
       exact c0
     · rw [step_open hm hs' o hc]
       have h0 := hm.2.2.2.1
       have h6 := hm.2.2.2.2.1
       have hn := hm.2.2.2.2.2
       split
       · have hb := ((numsOk_list (by omega) (by omega)).1 hn).2.2
         unfold oneS
         repeat' split
         all_goals first | exact in_i64 hb 0 | exact c0
       split
       · have hl := (numsOk_list (by omega) (by omega)).1 hn
         have hb := hl.2.2
         have h64 : I64 ((s.L.length : Int)) := i64_small (by omega) (by have := hl.1; omega)
         have h65 : I64 ((s.L.length : Int) + 1) := i64_small (by omega) (by have := hl.1; omega)
         unfold listS
         repeat' split
         all_goals first | exact in_i64 hb _ | exact c0 | exact cm | exact h64 | exact h65
       split
       · rename_i hk
         rw [hk, numsOk_4] at hn
         have hh := had_i64 (by decide) hn.2 o.a
         unfold storeS
         repeat' split
         all_goals first | exact c0 | exact cm | exact cn | exact hh
       · have hk : s.kind = 5 := by omega
         rw [hk, numsOk_5] at hn
         have hh := had_i64 (by decide) hn.2 o.a
         unfold ledgerS moveS
         repeat' split
         all_goals first | exact c0 | exact c1 | exact cm | exact cn | exact hh | exact cut_i64 _
 · rw [step_not hm]
   exact c0

theorem OwnI.but {w w' : World} {B : Nat} {v : Value} {l : List Int} (h : OwnI w B v l) {R T : Nat} (hb : But R T w w') (hn : ∀ b, v.ownBlock = some b -> b ≠ R ∧ b ≠ T) : OwnI w' B v l := by
 obtain ⟨h1, h2⟩ := h
 refine ⟨h1, ?_⟩
 rcases h2 with h2 | ⟨g, cap, cur, hv, hbg, hg, r⟩
 · exact .inl h2
 · have hlt : g < w.heap.size := (Array.getElem?_eq_some_iff.1 hg).1
   obtain ⟨n1, n2⟩ := hn g (by rw [hv]; rfl)
   exact .inr ⟨g, cap, cur, hv, hbg, by rw [hb.block g hlt n1 n2]; exact hg, r⟩

def Box2 (w : World) (B : Nat) (s r : Array Value) : Prop :=
 w.heap[B]? = some (.cells s 38 (0, 0)) ∧ w.heap[B + 1]? = some (.cells r 38 (0, 0))

theorem Box2.made (w : World) (s r : Array Value) : Box2 ((w.alloc (.cells s 38)).alloc (.cells r 38)) w.heap.size s r := by
 refine ⟨?_, ?_⟩
 · rw [Below.heap_alloc _ _ _ (by simp)]
   exact heap_alloc_new w _
 · have h := heap_alloc_new (w.alloc (.cells s 38)) (.cells r 38)
   have e : (w.alloc (.cells s 38)).heap.size = w.heap.size + 1 := by simp
   rwa [e] at h

theorem Box2.below {w w' : World} {B : Nat} {s r : Array Value} {C : Nat} (h : Box2 w B s r) (hb : Below C w w') (hC : B + 2 <= C) : Box2 w' B s r := by
 obtain ⟨h1, h2⟩ := h
 exact ⟨by rw [hb.block _ (by omega)]; exact h1, by rw [hb.block _ (by omega)]; exact h2⟩
-- 38

theorem Box2.s {w : World} {B : Nat} {s r : Array Value} (h : Box2 w B s r) (j : Nat) : w.cell? ⟨B, j, none⟩ = s[j]? ∧ w.frozen? ⟨B, j, none⟩ = false :=
 ⟨cell_of_row w B j _ _ _ h.1, frozen_of_row w B j _ _ h.1⟩
-- 38

theorem Box2.r {w : World} {B : Nat} {s r : Array Value} (h : Box2 w B s r) (j : Nat) : w.cell? ⟨B + 1, j, none⟩ = r[j]? ∧ w.frozen? ⟨B + 1, j, none⟩ = false :=
 ⟨cell_of_row w (B + 1) j _ _ _ h.2, frozen_of_row w (B + 1) j _ _ h.2⟩
-- 38

theorem wpList_append_intg (w : World) {ops : Array Oper} {rest : List Oper} {o : Oper} {a : Act} {Q : Exit -> Act -> World -> Prop} (hgd : o.guard = none) (s x : Operand)
   (ho : o.op = .call { callee := .builtin .append, args := #[s, x], argTypes := #[23, 23] })
   (B : Nat) (v : Value) (l : List Int) (hs : a.eval s = v) (hown : OwnI w B v l) (n : Int) (N : Nat) (hN : N = w.heap.size) (hx : a.eval x = .slice (some ⟨N, 0, none⟩) 1 1)
   (hlim : l.length <= 1000000) (hbase : B <= w.heap.size)
   (h : ∀ v' w', OwnI w' B v' (l ++ [n]) -> w.grownBy w' v.ownBlock -> (v'.ownBlock = v.ownBlock ∨ ∃ g, v'.ownBlock = some g ∧ w.heap.size <= g) -> wpList Tryz.prog ops Q rest (a.put o.dst v') w') : wpList Tryz.prog ops Q (o :: rest) a (w.alloc (.cells #[.int .i64 n] 3)) :=
 wpList_plain hgd fun _ hK => by
   subst hN
   obtain ⟨i0, hi, hz0, hz1, hz2⟩ := info_parts info_i64
   obtain ⟨v', w', hrun, ho', hg, _, hat⟩ := run_append_own_at (P := Tryz.prog) (w.alloc (.cells #[.int .i64 n] 3)) B 23 o.type 3 i0 (.int .i64 0) 1 8 Tryz.underlying23 hi hz0 hz1 hz2 rfl (by decide) v l.length (intCells l) (World.ownsRow.alloc hown _)
     ⟨w.heap.size, 0, none⟩ 1 1 [.int .i64 n] rfl (fun j u hj => by
       match j, hj with
       | 0, hj => simp at hj; subst hj; simp [Addr.add]) (fun u hu => by simp at hu; subst hu; rfl) (by unfold maxLen; omega) (by omega) (by simp; omega)
   have h2 : OwnI w' B v' (l ++ [n]) := by
     unfold OwnI
     have e1 : (l ++ [n]).length = l.length + 1 := by simp
     have e2 : intCells (l ++ [n]) = intCells l ++ [.int .i64 n] := by simp [intCells]
     rw [e1, e2]
     exact ho'
   have h3 : w.grownBy w' v.ownBlock := ⟨hg.os, hg.tape, hg.output, by have := hg.size; simp at this; omega, fun k hk hne => by
     rw [hg.block k (by simp; omega) hne]
     exact Below.heap_alloc _ _ _ hk⟩
   have h4 : v'.ownBlock = v.ownBlock ∨ ∃ g, v'.ownBlock = some g ∧ w.heap.size <= g := by
     rcases hat with hat | hat
     · exact .inl hat
     · exact .inr ⟨_, hat, by simp⟩
   unfold Oper.wp execOp
   simp only [ho, resolve, invoke, builtin, Sem.run_bind, Sem.run_pure, Result.andThen_ok, List.map_toArray, List.map_cons, List.map_nil, hs, hx, hrun]
   exact hK _ _ (h v' w' h2 h3 h4)

def Bx (w : World) (b : Nat) (cs : Array Value) : Prop := w.heap[b]? = some (.cells cs 38 (0, 0))

def Bo (w : World) (b : Nat) (cs : Array Value) : Prop := w.heap[b]? = some (.cells cs 52 (0, 0))

theorem Bx.lt {w : World} {b : Nat} {cs : Array Value} (h : Bx w b cs) : b < w.heap.size := (Array.getElem?_eq_some_iff.1 h).1
-- 38

theorem Bx.below {w w' : World} {b B : Nat} {cs : Array Value} (h : Bx w b cs) (hb : Below B w w') (hB : w.heap.size <= B) : Bx w' b cs := (hb.block b (by have := h.lt; omega)).trans h
-- 38

theorem Bx.cell {w : World} {b : Nat} {cs : Array Value} (h : Bx w b cs) (j : Nat) : w.cell? ⟨b, j, none⟩ = cs[j]? ∧ w.frozen? ⟨b, j, none⟩ = false := ⟨cell_of_row w b j _ _ _ h, frozen_of_row w b j _ _ h⟩
-- 38

theorem Bo.lt {w : World} {b : Nat} {cs : Array Value} (h : Bo w b cs) : b < w.heap.size := (Array.getElem?_eq_some_iff.1 h).1

theorem Bo.below {w w' : World} {b B : Nat} {cs : Array Value} (h : Bo w b cs) (hb : Below B w w') (hB : w.heap.size <= B) : Bo w' b cs := (hb.block b (by have := h.lt; omega)).trans h

theorem Bo.cell {w : World} {b : Nat} {cs : Array Value} (h : Bo w b cs) (j : Nat) : w.cell? ⟨b, j, none⟩ = cs[j]? ∧ w.frozen? ⟨b, j, none⟩ = false := ⟨cell_of_row w b j _ _ _ h, frozen_of_row w b j _ _ h⟩

theorem OwnI.four {w : World} {C : Nat} {v : Value} {l : List Int} (h : OwnI w C v l) (R : Nat) (hR : R < C) (x1 x2 x3 x4 : Value) : OwnI ((((w.setCell ⟨R, 0, none⟩ x1).setCell ⟨R, 1, none⟩ x2).setCell ⟨R, 2, none⟩ x3).setCell ⟨R, 3, none⟩ x4) C v l :=
 ownsRow_setCell_below (ownsRow_setCell_below (ownsRow_setCell_below (ownsRow_setCell_below h hR _) hR _) hR _) hR _

theorem OwnI.fresh {w : World} {B : Nat} {v : Value} {l : List Int} (h : OwnI w B v l) : ∀ b, v.ownBlock = some b -> B <= b := fun b hb => (World.ownsRow.lt h b hb).1

theorem zig_lt {n : Int} (h : I64 n) : Lib.zigzag n < 18446744073709551616 := by
 obtain ⟨h0, h1⟩ := h
 unfold Lib.zigzag
 split <;> omega

theorem zag_i64 {u : Nat} (h : u < 18446744073709551616) : I64 (zag u) := zag_range u h

theorem dec62_le (l : List UInt8) : (dec62 l).2 <= l.length := by
 rcases dec62_cases l with h | h
 · rw [h]; exact Nat.zero_le _
 · exact h.2.2.1

def putOpL (o : Opn) : List UInt8 := Lib.uvarint o.code.toNat ++ (Lib.uvarint (Lib.zigzag o.a) ++ Lib.uvarint (Lib.zigzag o.b))

def getOpL (l : List UInt8) : Opn × Nat :=
 if (dec62 l).2 = 0 ∨ (dec64 (l.drop (dec62 l).2)).2 = 0 ∨ (dec64 (l.drop ((dec62 l).2 + (dec64 (l.drop (dec62 l).2)).2))).2 = 0 ∨ ¬ FitsO ⟨((dec62 l).1 : Int), zag (dec64 (l.drop (dec62 l).2)).1, zag (dec64 (l.drop ((dec62 l).2 + (dec64 (l.drop (dec62 l).2)).2))).1⟩ then (⟨0, 0, 0⟩, 0)
 else (⟨((dec62 l).1 : Int), zag (dec64 (l.drop (dec62 l).2)).1, zag (dec64 (l.drop ((dec62 l).2 + (dec64 (l.drop (dec62 l).2)).2))).1⟩, (dec62 l).2 + (dec64 (l.drop (dec62 l).2)).2 + (dec64 (l.drop ((dec62 l).2 + (dec64 (l.drop (dec62 l).2)).2))).2)

theorem fits_i64 {o : Opn} (h : FitsO o) : I64 o.a ∧ I64 o.b := by
 obtain ⟨_, _, h1, h2, h3, h4⟩ := h
 exact ⟨i64_small (by omega) (by omega), i64_small (by omega) (by omega)⟩

theorem uv_ne (u : Nat) : (Lib.uvarint u).length ≠ 0 := by have := Lib.uvarint_pos u; omega

theorem getOp_put (o : Opn) (h : FitsO o) (t : List UInt8) : getOpL (putOpL o ++ t) = (o, (putOpL o).length) := by
 obtain ⟨ia, ib⟩ := fits_i64 h
 have hc0 := h.1
 have hc1 := h.2.1
 have d1 : dec62 (putOpL o ++ t) = (o.code.toNat, (Lib.uvarint o.code.toNat).length) := by
   unfold putOpL
   rw [List.append_assoc]
   exact dec62_uvarint _ _ (by omega)
 have e1 : (putOpL o ++ t).drop (Lib.uvarint o.code.toNat).length = Lib.uvarint (Lib.zigzag o.a) ++ (Lib.uvarint (Lib.zigzag o.b) ++ t) := by
   unfold putOpL
   rw [List.append_assoc, List.drop_left, List.append_assoc]
 have d2 := dec64_uvarint (Lib.zigzag o.a) (Lib.uvarint (Lib.zigzag o.b) ++ t) (zig_lt ia)
 have e2 : (putOpL o ++ t).drop ((Lib.uvarint o.code.toNat).length + (Lib.uvarint (Lib.zigzag o.a)).length) = Lib.uvarint (Lib.zigzag o.b) ++ t := by
   rw [<- List.drop_drop, e1, List.drop_left]
 have d3 := dec64_uvarint (Lib.zigzag o.b) t (zig_lt ib)
 have eo : (⟨((o.code.toNat : Nat) : Int), zag (Lib.zigzag o.a), zag (Lib.zigzag o.b)⟩ : Opn) = o := by
   rw [zag_zigzag _ ia.1 ia.2, zag_zigzag _ ib.1 ib.2]
   obtain ⟨c, a, b⟩ := o
   simp only [Opn.mk.injEq, and_true]
   simp only at hc0
   omega
 unfold getOpL
 simp only [d1, e1, d2, e2, d3]
 rw [if_neg, eo]
 · simp only [Prod.mk.injEq, true_and]
   unfold putOpL
   simp only [List.length_append]
   omega
 · rw [eo]
   rintro (h1 | h1 | h1 | h1)
   · exact uv_ne _ h1
   · exact uv_ne _ h1
   · exact uv_ne _ h1
   · exact h1 h

theorem getOp_le (l : List UInt8) : (getOpL l).2 <= l.length := by
 unfold getOpL
 split
 · exact Nat.zero_le _
 · have h1 := dec62_le l
   have h2 := dec64_le (l.drop (dec62 l).2)
   have h3 := dec64_le (l.drop ((dec62 l).2 + (dec64 (l.drop (dec62 l).2)).2))
   simp only [List.length_drop] at h2 h3
   show (dec62 l).2 + _ + _ <= _
   omega

theorem getOp_none {l : List UInt8} (h : (getOpL l).2 = 0) : (getOpL l).1 = ⟨0, 0, 0⟩ := by
 unfold getOpL at h ⊢
 split
 · rfl
 · rename_i hn
   rw [if_neg hn] at h
   simp only at h
   omega

theorem take_split (l : List UInt8) (i j : Nat) : l.take (i + j) = l.take i ++ (l.drop i).take j := by
 rw [List.take_add]

theorem getOp_sound {l : List UInt8} (h : (getOpL l).2 ≠ 0) : FitsO (getOpL l).1 ∧ putOpL (getOpL l).1 = l.take (getOpL l).2 := by
 unfold getOpL at h ⊢
 by_cases hn : (dec62 l).2 = 0 ∨ (dec64 (l.drop (dec62 l).2)).2 = 0 ∨ (dec64 (l.drop ((dec62 l).2 + (dec64 (l.drop (dec62 l).2)).2))).2 = 0 ∨ ¬ FitsO ⟨((dec62 l).1 : Int), zag (dec64 (l.drop (dec62 l).2)).1, zag (dec64 (l.drop ((dec62 l).2 + (dec64 (l.drop (dec62 l).2)).2))).1⟩
 · rw [if_pos hn] at h
   exact absurd rfl h
 · rw [if_neg hn]
   have h1 : (dec62 l).2 ≠ 0 := fun e => hn (.inl e)
   have h2 : (dec64 (l.drop (dec62 l).2)).2 ≠ 0 := fun e => hn (.inr (.inl e))
   have h3 : (dec64 (l.drop ((dec62 l).2 + (dec64 (l.drop (dec62 l).2)).2))).2 ≠ 0 := fun e => hn (.inr (.inr (.inl e)))
   have h4 : FitsO ⟨((dec62 l).1 : Int), zag (dec64 (l.drop (dec62 l).2)).1, zag (dec64 (l.drop ((dec62 l).2 + (dec64 (l.drop (dec62 l).2)).2))).1⟩ := Classical.byContradiction fun e => hn (.inr (.inr (.inr e)))
   refine ⟨h4, ?_⟩
   have c1 : l.take (dec62 l).2 = Lib.uvarint (dec62 l).1 := by
     rcases dec62_cases l with e | e
     · rw [e] at h1; exact absurd rfl h1
     · exact e.2.2.2
   have c2 : (l.drop (dec62 l).2).take (dec64 (l.drop (dec62 l).2)).2 = Lib.uvarint (dec64 (l.drop (dec62 l).2)).1 := by
     rcases dec64_cases (l.drop (dec62 l).2) with e | e
     · rw [e] at h2; exact absurd rfl h2
     · exact e.2.2.2
   have c3 : (l.drop ((dec62 l).2 + (dec64 (l.drop (dec62 l).2)).2)).take (dec64 (l.drop ((dec62 l).2 + (dec64 (l.drop (dec62 l).2)).2))).2 = Lib.uvarint (dec64 (l.drop ((dec62 l).2 + (dec64 (l.drop (dec62 l).2)).2))).1 := by
     rcases dec64_cases (l.drop ((dec62 l).2 + (dec64 (l.drop (dec62 l).2)).2)) with e | e
     · rw [e] at h3; exact absurd rfl h3
     · exact e.2.2.2
   unfold putOpL
   simp only [zigzag_zag]
   rw [take_split, take_split, c1, c2, c3, List.append_assoc]
   rfl

def numsL : List Int -> List UInt8
 | [] => []
 | x :: r => Lib.uvarint (Lib.zigzag x) ++ numsL r

def sealN (s : St) : Nat := if s.shut = true then s.eng.toNat + 1 else 0

def encS (s : St) : List UInt8 := Lib.uvarint s.kind.toNat ++ (Lib.uvarint (sealN s) ++ (Lib.uvarint s.L.length ++ numsL s.L))

def readL : Nat -> List UInt8 -> Option (List Int × Nat)
 | 0, _ => some ([], 0)
 | n + 1, l => if (dec64 l).2 = 0 then none else (readL n (l.drop (dec64 l).2)).map fun x => (zag (dec64 l).1 :: x.1, (dec64 l).2 + x.2)

def mkS (kind sl : Nat) (xs : List Int) : St := ⟨kind, xs, decide (0 < sl), if 0 < sl then (sl : Int) - 1 else 0⟩

def zeroS : St := ⟨0, [], false, 0⟩

def restS (kind sl many : Nat) (l : List UInt8) : St × Int :=
 match readL many l with
 | none => (zeroS, 3)
 | some (xs, u) => if u ≠ l.length then (zeroS, 3) else if MayS (mkS kind sl xs) then (mkS kind sl xs, 0) else (zeroS, 1)

def decS (l : List UInt8) : St × Int :=
 if (dec62 l).2 = 0 ∨ (dec62 (l.drop (dec62 l).2)).2 = 0 ∨ (dec62 (l.drop ((dec62 l).2 + (dec62 (l.drop (dec62 l).2)).2))).2 = 0 ∨ 3 < (dec62 (l.drop (dec62 l).2)).1 ∨ 128 < (dec62 (l.drop ((dec62 l).2 + (dec62 (l.drop (dec62 l).2)).2))).1 then (zeroS, 3)
 else restS (dec62 l).1 (dec62 (l.drop (dec62 l).2)).1 (dec62 (l.drop ((dec62 l).2 + (dec62 (l.drop (dec62 l).2)).2))).1 (l.drop ((dec62 l).2 + (dec62 (l.drop (dec62 l).2)).2 + (dec62 (l.drop ((dec62 l).2 + (dec62 (l.drop (dec62 l).2)).2))).2))

theorem readL_sound : ∀ (n : Nat) (l : List UInt8) (xs : List Int) (u : Nat), readL n l = some (xs, u) -> xs.length = n ∧ u <= l.length ∧ numsL xs = l.take u ∧ ∀ x ∈ xs, I64 x
 | 0, l, xs, u, h => by
   simp only [readL, Option.some.injEq, Prod.mk.injEq] at h
   obtain ⟨rfl, rfl⟩ := h
   exact ⟨rfl, Nat.zero_le _, by simp [numsL], fun x hx => by simp at hx⟩
 | n + 1, l, xs, u, h => by
   rw [readL] at h
   by_cases h0 : (dec64 l).2 = 0
   · rw [if_pos h0] at h; cases h
   · rw [if_neg h0] at h
     obtain ⟨⟨ys, k⟩, hy, he⟩ := Option.map_eq_some_iff.1 h
     simp only [Prod.mk.injEq] at he
     obtain ⟨rfl, rfl⟩ := he
     obtain ⟨i1, i2, i3, i4⟩ := readL_sound n _ ys k hy
     rcases dec64_cases l with e | ⟨e1, e2, e3, e4⟩
     · rw [e] at h0; exact absurd rfl h0
     · simp only [List.length_drop] at i2
       refine ⟨by simp [i1], by omega, ?_, ?_⟩
       · rw [numsL, zigzag_zag, i3, take_split, e4]
       · intro x hx
         rcases List.mem_cons.1 hx with rfl | hx
         · exact zag_i64 e1
         · exact i4 x hx

theorem may_small {s : St} (h : MayS s) : s.kind.toNat < 4611686018427387904 ∧ s.L.length <= 128 ∧ ∀ x ∈ s.L, I64 x := by
 have h0 := h.2.2.2.1
 have h6 := h.2.2.2.2.1
 have hn := h.2.2.2.2.2
 by_cases h4 : s.kind = 4
 · rw [h4, numsOk_4] at hn
   refine ⟨by omega, hn.1, fun x hx => ?_⟩
   have hb : ∀ (l : List Int) (lo : Int), -1 <= lo -> Pairs (-1099511627776) lo l -> ∀ x ∈ l, I64 x := by
     intro l
     match l with
     | [] => intro _ _ _ x hx; simp at hx
     | [_] => intro _ _ h; simp [Pairs] at h
     | a :: b :: r => exact pairsW a b r
   exact hb s.L (-1) (by decide) hn.2 x hx
 · by_cases h5 : s.kind = 5
   · rw [h5, numsOk_5] at hn
     exact ⟨by omega, hn.1, fun x hx => by have := pairs_mem (by decide) hn.2 x hx; exact i64_small (by omega) (by omega)⟩
   · have hl := (numsOk_list h4 h5).1 hn
     exact ⟨by omega, by omega, fun x hx => by have := (inBounds_iff _).1 hl.2.2 x hx; exact i64_small (by omega) (by omega)⟩
where
 pairsW (a b : Int) (r : List Int) : ∀ (lo : Int), -1 <= lo -> Pairs (-1099511627776) lo (a :: b :: r) -> ∀ x ∈ a :: b :: r, I64 x := by
   intro lo hlo h x hx
   unfold Pairs at h
   simp at hx
   rcases hx with rfl | rfl | hx
   · exact i64_small (by omega) (by omega)
   · exact i64_small (by omega) (by omega)
   · match r, hx, h with
     | a2 :: b2 :: r2, hx, h => exact pairsW a2 b2 r2 a (by omega) h.2.2.2.2 x hx
     | [c], _, h => simp [Pairs] at h

theorem decS_codes (l : List UInt8) : (decS l).2 = 0 ∨ ((decS l).1 = zeroS ∧ ((decS l).2 = 3 ∨ (decS l).2 = 1)) := by
 unfold decS
 split
 · exact .inr ⟨rfl, .inl rfl⟩
 · unfold restS
   split
   · exact .inr ⟨rfl, .inl rfl⟩
   · split
     · exact .inr ⟨rfl, .inl rfl⟩
     · split
       · exact .inl rfl
       · exact .inr ⟨rfl, .inr rfl⟩

theorem decS_sound {l : List UInt8} (h : (decS l).2 = 0) : MayS (decS l).1 ∧ encS (decS l).1 = l := by
 unfold decS at h ⊢
 by_cases hn : (dec62 l).2 = 0 ∨ (dec62 (l.drop (dec62 l).2)).2 = 0 ∨ (dec62 (l.drop ((dec62 l).2 + (dec62 (l.drop (dec62 l).2)).2))).2 = 0 ∨ 3 < (dec62 (l.drop (dec62 l).2)).1 ∨ 128 < (dec62 (l.drop ((dec62 l).2 + (dec62 (l.drop (dec62 l).2)).2))).1
 · rw [if_pos hn] at h
   cases h
 · rw [if_neg hn] at h ⊢
   have h1 : (dec62 l).2 ≠ 0 := fun e => hn (.inl e)
   have h2 : (dec62 (l.drop (dec62 l).2)).2 ≠ 0 := fun e => hn (.inr (.inl e))
   have h3 : (dec62 (l.drop ((dec62 l).2 + (dec62 (l.drop (dec62 l).2)).2))).2 ≠ 0 := fun e => hn (.inr (.inr (.inl e)))
   have c1 : l.take (dec62 l).2 = Lib.uvarint (dec62 l).1 := by
     rcases dec62_cases l with e | e
     · rw [e] at h1; exact absurd rfl h1
     · exact e.2.2.2
   have c2 : (l.drop (dec62 l).2).take (dec62 (l.drop (dec62 l).2)).2 = Lib.uvarint (dec62 (l.drop (dec62 l).2)).1 := by
     rcases dec62_cases (l.drop (dec62 l).2) with e | e
     · rw [e] at h2; exact absurd rfl h2
     · exact e.2.2.2
   have c3 : (l.drop ((dec62 l).2 + (dec62 (l.drop (dec62 l).2)).2)).take (dec62 (l.drop ((dec62 l).2 + (dec62 (l.drop (dec62 l).2)).2))).2 = Lib.uvarint (dec62 (l.drop ((dec62 l).2 + (dec62 (l.drop (dec62 l).2)).2))).1 := by
     rcases dec62_cases (l.drop ((dec62 l).2 + (dec62 (l.drop (dec62 l).2)).2)) with e | e
     · rw [e] at h3; exact absurd rfl h3
     · exact e.2.2.2
   generalize (dec62 (l.drop ((dec62 l).2 + (dec62 (l.drop (dec62 l).2)).2))).2 = k at *
   generalize (dec62 (l.drop ((dec62 l).2 + (dec62 (l.drop (dec62 l).2)).2))).1 = many at *
   generalize (dec62 (l.drop (dec62 l).2)).2 = j at *
   generalize (dec62 (l.drop (dec62 l).2)).1 = sl at *
   generalize (dec62 l).2 = i at *
   generalize (dec62 l).1 = kind at *
   unfold restS at h ⊢
   cases hr : readL many (l.drop (i + j + k)) with
   | none => rw [hr] at h; cases h
   | some x =>
     obtain ⟨xs, u⟩ := x
     rw [hr] at h
     simp only at h ⊢
     obtain ⟨r1, r2, r3, r4⟩ := readL_sound _ _ _ _ hr
     by_cases hu : u ≠ (l.drop (i + j + k)).length
     · rw [if_pos hu] at h; cases h
     · rw [if_neg hu] at h ⊢
       by_cases hm : MayS (mkS kind sl xs)
       · rw [if_pos hm]
         refine ⟨hm, ?_⟩
         have hu' : u = (l.drop (i + j + k)).length := Classical.byContradiction hu
         rw [hu', List.take_length] at r3
         have ek : (mkS kind sl xs).kind.toNat = kind := by simp [mkS]
         have es : sealN (mkS kind sl xs) = sl := by
           unfold sealN mkS
           by_cases h0 : 0 < sl
           · simp [h0]; omega
           · simp [h0]; omega
         show Lib.uvarint (mkS kind sl xs).kind.toNat ++ (Lib.uvarint (sealN (mkS kind sl xs)) ++ (Lib.uvarint xs.length ++ numsL xs)) = l
         rw [ek, es, r1, r3, <- c1, <- c2, <- c3]
         have f1 : l.drop (i + j) = (l.drop i).drop j := by rw [List.drop_drop]
         have f2 : l.drop (i + j + k) = ((l.drop i).drop j).drop k := by rw [List.drop_drop, List.drop_drop, Nat.add_assoc]
         rw [f1, f2, List.take_append_drop, List.take_append_drop, List.take_append_drop]
       · rw [if_neg hm] at h; cases h

structure Rec where
 idx : Int
 proc : Int
 seq : Int
 op : Opn
 resp : Int

def zeroR : Rec := ⟨0, 0, 0, ⟨0, 0, 0⟩, 0⟩

def FitsR (r : Rec) : Prop := FitsO r.op ∧ 0 <= r.idx ∧ r.idx < 4611686018427387904 ∧ 0 <= r.seq ∧ r.seq < 4611686018427387904 ∧ 0 <= r.proc ∧ r.proc <= 64 ∧ -1125899906842624 <= r.resp ∧ r.resp <= 1125899906842624

instance (r : Rec) : Decidable (FitsR r) := by unfold FitsR; infer_instance

def hasV (v f : Nat) : Prop := f = 1 ∨ f = 2 ∨ f = 4 ∨ (f = 3 ∧ 2 <= v) ∨ (f = 5 ∧ v = 3)

instance (v f : Nat) : Decidable (hasV v f) := by unfold hasV; infer_instance

def bytesF (r : Rec) (f : Nat) : List UInt8 :=
 if f = 1 then Lib.uvarint r.idx.toNat else if f = 2 then Lib.uvarint r.proc.toNat else if f = 3 then Lib.uvarint r.seq.toNat
 else if f = 4 then putOpL r.op else Lib.uvarint (Lib.zigzag r.resp)

def valueF (r : Rec) (f : Nat) (l : List UInt8) : Rec × Nat :=
 if f = 1 then ({ r with idx := ((dec62 l).1 : Int) }, (dec62 l).2) else if f = 2 then ({ r with proc := ((dec62 l).1 : Int) }, (dec62 l).2)
 else if f = 3 then ({ r with seq := ((dec62 l).1 : Int) }, (dec62 l).2) else if f = 4 then ({ r with op := (getOpL l).1 }, (getOpL l).2)
 else ({ r with resp := zag (dec64 l).1 }, (dec64 l).2)

set_option linter.unusedVariables false in
def walkV (v : Nat) (l : List UInt8) (last : Int) (found : Nat) (r : Rec) : Except Int (Rec × Nat) :=
 if hl : l = [] then .ok (r, found)
 else if hk : (dec62 l).2 = 0 ∨ ((dec62 l).1 : Int) <= last then .error 3
 else if hasV v (dec62 l).1 then
   if (valueF r (dec62 l).1 (l.drop (dec62 l).2)).2 = 0 then .error 3
   else walkV v (l.drop ((dec62 l).2 + (valueF r (dec62 l).1 (l.drop (dec62 l).2)).2)) (dec62 l).1 (found + 1) (valueF r (dec62 l).1 (l.drop (dec62 l).2)).1
 else if (dec62 l).1 < 16 ∨ v = 3 then .error 7
 else if (dec62 (l.drop (dec62 l).2)).2 = 0 ∨ l.length < (dec62 l).2 + (dec62 (l.drop (dec62 l).2)).2 + (dec62 (l.drop (dec62 l).2)).1 then .error 3
 else walkV v (l.drop ((dec62 l).2 + (dec62 (l.drop (dec62 l).2)).2 + (dec62 (l.drop (dec62 l).2)).1)) (dec62 l).1 found r
termination_by l.length
decreasing_by
 all_goals
   have h1 : l.length ≠ 0 := by simpa using hl
   have h2 : (dec62 l).2 ≠ 0 := fun e => hk (.inl e)
   rw [List.length_drop]
   omega

def decR (l : List UInt8) : Rec × Int :=
 if l = [] then (zeroR, 2)
 else if (dec62 l).2 = 0 then (zeroR, 3)
 else if (dec62 l).1 < 1 ∨ 3 < (dec62 l).1 then (zeroR, 6)
 else match walkV (dec62 l).1 (l.drop (dec62 l).2) (-1) 0 zeroR with
   | .error e => (zeroR, e)
   | .ok (r, found) => if found ≠ (dec62 l).1 + 2 then (zeroR, 7) else if FitsR r then (r, 0) else (zeroR, 1)

def fieldsV (v : Int) : List Nat := if v = 1 then [1, 2, 4] else if v = 2 then [1, 2, 3, 4] else [1, 2, 3, 4, 5]

def encFs (r : Rec) : List Nat -> List UInt8
 | [] => []
 | f :: fs => Lib.uvarint f ++ (bytesF r f ++ encFs r fs)

def encR (v : Int) (r : Rec) : List UInt8 := Lib.uvarint v.toNat ++ encFs r (fieldsV v)

theorem fitsR_resp {r : Rec} (h : FitsR r) : I64 r.resp := i64_small (by have := h.2.2.2.2.2.2.2.1; omega) (by have := h.2.2.2.2.2.2.2.2; omega)

theorem dec62_take {l : List UInt8} (h : (dec62 l).2 ≠ 0) : Lib.uvarint (dec62 l).1 = l.take (dec62 l).2 := by
 rcases dec62_cases l with e | e
 · rw [e] at h; exact absurd rfl h
 · exact e.2.2.2.symm

theorem dec64_take {l : List UInt8} (h : (dec64 l).2 ≠ 0) : Lib.uvarint (dec64 l).1 = l.take (dec64 l).2 := by
 rcases dec64_cases l with e | e
 · rw [e] at h; exact absurd rfl h
 · exact e.2.2.2.symm

end Go.Proofs.YtpopbandpnaicaaGreatDoor

