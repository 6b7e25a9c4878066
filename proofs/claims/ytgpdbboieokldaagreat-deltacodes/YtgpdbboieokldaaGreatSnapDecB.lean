/- Contract of snapshot: getEntry. -/
import Derived.Test.YtgpdbboieokldaaGreatSnapDecA
namespace Go.Proofs.YtgpdbboieokldaaGreat
open Go.RowKit

/-- The entry that bytes begin with, and what is left. -/
def step1 (b : List UInt8) : Option (Ent × List UInt8) :=
  match getsL 2 b with
  | none => none
  | some (ns, l) => if (dec64 l).2 = 0 then none else some (⟨((ns.getD 0 0 : Nat) : Int), ((ns.getD 1 0 : Nat) : Int), zag (dec64 l).1⟩, l.drop (dec64 l).2)

theorem getsL_one (b : List UInt8) : getsL 1 b = if (dec62 b).2 = 0 then none else some ([(dec62 b).1], b.drop (dec62 b).2) := rfl

theorem getsL_two (b : List UInt8) : getsL 2 b = if (dec62 b).2 = 0 then none else if (dec62 (b.drop (dec62 b).2)).2 = 0 then none else some ([(dec62 b).1, (dec62 (b.drop (dec62 b).2)).1], (b.drop (dec62 b).2).drop (dec62 (b.drop (dec62 b).2)).2) := by
  rw [getsL]
  split
  · rfl
  · rw [getsL_one]
    split <;> rfl

theorem readE_step1 (n : Nat) (b : List UInt8) : readE (n + 1) b = (step1 b).bind (fun y => (readE n y.2).map (fun r => (y.1 :: r.1, r.2))) := by
  have h : readE (n + 1) b = if (dec62 b).2 = 0 ∨ (dec62 (b.drop (dec62 b).2)).2 = 0 ∨ (dec64 (b.drop ((dec62 b).2 + (dec62 (b.drop (dec62 b).2)).2))).2 = 0 then none
    else (readE n (b.drop ((dec62 b).2 + (dec62 (b.drop (dec62 b).2)).2 + (dec64 (b.drop ((dec62 b).2 + (dec62 (b.drop (dec62 b).2)).2))).2))).map (fun r => (⟨(dec62 b).1, (dec62 (b.drop (dec62 b).2)).1, zag (dec64 (b.drop ((dec62 b).2 + (dec62 (b.drop (dec62 b).2)).2))).1⟩ :: r.1, r.2)) := rfl
  rw [h]
  unfold step1
  rw [getsL_two]
  by_cases h1 : (dec62 b).2 = 0
  · rw [if_pos (.inl h1), if_pos h1]
    rfl
  rw [if_neg h1]
  by_cases h2 : (dec62 (b.drop (dec62 b).2)).2 = 0
  · rw [if_pos (.inr (.inl h2)), if_pos h2]
    rfl
  rw [if_neg h2]
  simp only [List.drop_drop]
  by_cases h3 : (dec64 (b.drop ((dec62 b).2 + (dec62 (b.drop (dec62 b).2)).2))).2 = 0
  · rw [if_pos (.inr (.inr h3)), if_pos h3]
    rfl
  · rw [if_neg (by omega), if_neg h3]
    rfl

/-- What getEntry answers. -/
def GotE (w : World) (v : Value) (b : List UInt8) (e : Ending) (w' : World) : Prop :=
  ∃ (x : Ent) (v' : Value) (l : List UInt8), e = .returned (.tuple #[entV x, v', .bool (step1 b).isSome]) ∧ EntI x ∧ (∀ W, Rd W v b → Rd W v' l) ∧ (∀ y, step1 b = some y → y = (x, l)) ∧ Below w.heap.size w w'

theorem dec64_nilE : dec64 [] = (0, 0) := by decide

/-- The box of an entry, some of whose first two numbers are written. -/
theorem box_two {W : World} {R : Nat} (h : Be W R #[.int .i64 0, .int .i64 0, .int .i64 0]) (ns : List Nat) (hn : ns.length ≤ 2) (hns : ∀ n ∈ ns, n < 4611686018427387904) :
    ∃ x y : Int, Be (setAt W ([(R, 0), (R, 1)].take ns.length) ns) R #[.int .i64 x, .int .i64 y, .int .i64 0] ∧ I64 x ∧ I64 y ∧ (ns.length = 2 → x = ((ns.getD 0 0 : Nat) : Int) ∧ y = ((ns.getD 1 0 : Nat) : Int)) := by
  have i0 : I64 0 := i64_small (by decide) (by decide)
  match ns, hn, hns with
  | [], _, _ => exact ⟨0, 0, h, i0, i0, fun h => absurd h (by simp)⟩
  | [n], _, hns =>
    have := hns n (by simp)
    refine ⟨(n : Int), 0, ?_, ⟨by omega, by omega⟩, i0, fun h => absurd h (by simp)⟩
    have h2 := heap_setCell_same W R 0 _ _ (.int .i64 (n : Int)) h
    exact h2
  | [n, m], _, hns =>
    have h1 := hns n (by simp)
    have h2 := hns m (by simp)
    refine ⟨(n : Int), (m : Int), ?_, ⟨by omega, by omega⟩, ⟨by omega, by omega⟩, fun _ => ⟨rfl, rfl⟩⟩
    have h3 := heap_setCell_same W R 0 _ _ (.int .i64 (n : Int)) h
    exact heap_setCell_same _ R 1 _ _ (.int .i64 (m : Int)) h3

theorem three_new (w : World) (x y z : Obj) : ((((w.alloc x).alloc y).alloc z).heap[w.heap.size]? = some x ∧ (((w.alloc x).alloc y).alloc z).heap[w.heap.size + 1]? = some y ∧ (((w.alloc x).alloc y).alloc z).heap[w.heap.size + 2]? = some z) := by
  refine ⟨?_, ?_, ?_⟩
  · exact ((Below.heap_alloc _ _ _ (by simp; omega)).trans (Below.heap_alloc _ _ _ (by simp))).trans (heap_alloc_new w x)
  · refine (Below.heap_alloc _ _ _ (by simp)).trans ?_
    have := heap_alloc_new (w.alloc x) y
    simpa using this
  · have := heap_alloc_new ((w.alloc x).alloc y) z
    simpa using this

theorem Be.set {w : World} {b : Nat} {cs : Array Value} (h : Be w b cs) (j : Nat) (x : Value) : Be (w.setCell ⟨b, j, none⟩ x) b (cs.setIfInBounds j x) := by
  have := heap_setCell_same w b j _ _ x h
  unfold Be
  simpa using this

theorem Be.other {w : World} {b c : Nat} {cs : Array Value} (h : Be w b cs) (j : Nat) (x : Value) (hne : b ≠ c) : Be (w.setCell ⟨c, j, none⟩ x) b cs := (Below.heap_setCell _ _ _ _ hne).trans h

theorem belowTri {C : Nat} {w0 w : World} (h : Below C w0 w) (R : Nat) (hR : C ≤ R) (x0 x1 x2 : Value) : Below C w0 (((w.setCell ⟨R, 0, none⟩ x0).setCell ⟨R, 1, none⟩ x1).setCell ⟨R, 2, none⟩ x2) :=
  ((h.setCell hR _).setCell hR _).setCell hR _

end Go.Proofs.YtgpdbboieokldaaGreat
