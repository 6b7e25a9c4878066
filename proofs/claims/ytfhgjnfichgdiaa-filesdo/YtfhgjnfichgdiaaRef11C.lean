/- The document's disk in memory: what it is made of, and how that lasts. -/
import Derived.Test.YtfhgjnfichgdiaaRef11B
import Derived.Test.YtfhgjnfichgdiaaFilesSum
namespace Go.Proofs.Ytfhgjnfichgdiaa
open Go.RowKit

/-- A change's cells. -/
def chC : Ch → Array Value
  | .give n f => #[.int .i64 n, .int .i64 (f : Int), .int .i64 (-1)]
  | .move n m f => #[.int .i64 m, .int .i64 (f : Int), .int .i64 n]
  | .take n => #[.int .i64 n, .int .i64 (-1), .int .i64 (-1)]

def chCells : List Ch → List Value
  | [] => []
  | c :: l => (chC c).toList ++ chCells l

theorem chC_size (c : Ch) : (chC c).toList.length = 3 := by cases c <;> rfl

theorem chCells_length : ∀ l : List Ch, (chCells l).length = l.length * 3
  | [] => rfl
  | c :: l => by
    rw [chCells, List.length_append, chCells_length l, List.length_cons, chC_size]
    omega

theorem chCells_app : ∀ a b : List Ch, chCells (a ++ b) = chCells a ++ chCells b
  | [], _ => rfl
  | c :: l, b => by rw [List.cons_append, chCells, chCells_app l b, chCells, List.append_assoc]

theorem chCells_get : ∀ (l : List Ch) (j k : Nat) (hj : j < l.length), k < 3 → (chCells l)[j * 3 + k]? = (chC l[j])[k]?
  | c :: l, 0, k, _, hk => by
    rw [chCells, Nat.zero_mul, Nat.zero_add, List.getElem?_append_left (by rw [chC_size]; exact hk)]
    simp
  | c :: l, j + 1, k, hj, hk => by
    have e : (j + 1) * 3 + k = (chC c).toList.length + (j * 3 + k) := by rw [chC_size]; omega
    rw [chCells, e, List.getElem?_append_right (by omega), Nat.add_sub_cancel_left, chCells_get l j k (by simpa using hj) hk]
    rfl

theorem chCells_one (l : List Ch) : ∀ u ∈ chCells l, u.oneCell' = true := by
  induction l with
  | nil => intro u hu; cases hu
  | cons c l ih =>
    intro u hu
    rw [chCells] at hu
    rcases List.mem_append.1 hu with h | h
    · cases c <;> simp [chC] at h <;> rcases h with rfl | rfl | rfl <;> rfl
    · exact ih u h

/-- Files' pointers. -/
def ptrCells (ps : Nat → Nat) (n : Nat) : List Value := (List.range n).map fun i => ptr (ps i)

theorem ptrCells_get (ps : Nat → Nat) (n i : Nat) (hi : i < n) : (ptrCells ps n)[i]? = some (ptr (ps i)) := by
  unfold ptrCells
  simp [hi]

/-- A file of the document's disk. -/
structure RFileV (w : World) (b : Nat) (v : Value) (x : Fl) : Prop where
  box : Bk 64 w b #[v, .int .i64 (x.k : Int)]
  own : Own w 0 v x.b

theorem RFileV.keep {w w' : World} {b : Nat} {v : Value} {x : Fl} (h : RFileV w b v x) (h1 : w'.heap[b]? = w.heap[b]?) (h2 : ∀ g, v.ownBlock = some g → w'.heap[g]? = w.heap[g]?) : RFileV w' b v x :=
  ⟨h.box.keep h1, ownsRow_keep h.own h2⟩

/-- Where the document's disk has its parts, and its power. -/
structure RLay where
  fv : Value
  kv : Value
  wv : Value
  ps : Nat → Nat
  vs : Nat → Value
  out : Bool
  armed : Bool
  left : Int

def rheadC (L : RLay) (room : Int) : Array Value := #[.int .i64 room, L.fv, L.kv, L.wv, .bool L.out, .bool L.armed, .int .i64 L.left]

/-- The power, as the document's disk tells it. -/
def PwR (L : RLay) (q : Int) : Prop := L.out = decide (q = 0) ∧ (q ≠ 0 → L.armed = decide (0 < q) ∧ (0 < q → L.left = q))

structure RefL (F : Nat → Prop) (w : World) (p : Nat) (L : RLay) (d : Dk) : Prop where
  head : Bk 42 w p (rheadC L d.room)
  files : w.ownsRow 0 65 1 L.fv d.files.length (ptrCells L.ps d.files.length)
  kept : OwnN w 0 L.kv d.kept
  waits : w.ownsRow 0 81 3 L.wv d.waits.length (chCells d.waits)
  file : ∀ i, i < d.files.length → RFileV w (L.ps i) (L.vs i) (fl d.files i)
  psn : ∀ i j, i < d.files.length → j < d.files.length → i ≠ j → L.ps i ≠ L.ps j
  vsn : ∀ i j, i < d.files.length → j < d.files.length → i ≠ j → ∀ g, (L.vs i).ownBlock = some g → (L.vs j).ownBlock ≠ some g
  fh : F p
  ff : ∀ g, L.fv.ownBlock = some g → F g
  fk : ∀ g, L.kv.ownBlock = some g → F g
  fw : ∀ g, L.wv.ownBlock = some g → F g
  fp : ∀ i, i < d.files.length → F (L.ps i)
  fb : ∀ i, i < d.files.length → ∀ g, (L.vs i).ownBlock = some g → F g
  lt : ∀ k, F k → k < w.heap.size

theorem RefL.keep {F : Nat → Prop} {w w' : World} {p : Nat} {L : RLay} {d : Dk} (h : RefL F w p L d) (hk : ∀ k, F k → w'.heap[k]? = w.heap[k]?) (hs : w.heap.size ≤ w'.heap.size) : RefL F w' p L d :=
  ⟨h.head.keep (hk p h.fh), ownsRow_keep h.files fun g hg => hk g (h.ff g hg), ownsRow_keep h.kept fun g hg => hk g (h.fk g hg), ownsRow_keep h.waits fun g hg => hk g (h.fw g hg),
    fun i hi => (h.file i hi).keep (hk _ (h.fp i hi)) fun g hg => hk g (h.fb i hi g hg), h.psn, h.vsn, h.fh, h.ff, h.fk, h.fw, h.fp, h.fb, fun k hf => by have := h.lt k hf; omega⟩

theorem RefL.only {F G : Nat → Prop} {w w' : World} {p : Nat} {L : RLay} {d : Dk} (h : RefL F w p L d) (ho : Only G w w') (hFG : ∀ k, F k → ¬ G k) : RefL F w' p L d :=
  h.keep (fun k hf => ho.block k (h.lt k hf) (hFG k hf)) ho.size

theorem RefL.below {F : Nat → Prop} {w w' : World} {p : Nat} {L : RLay} {d : Dk} (h : RefL F w p L d) (hb : Below w.heap.size w w') : RefL F w' p L d :=
  h.keep (fun k hf => hb.block k (h.lt k hf)) hb.size

theorem RefL.cells {F : Nat → Prop} {w : World} {p : Nat} {L : RLay} {d : Dk} (h : RefL F w p L d) :
    (w.cell? ⟨p, 0, none⟩ = some (.int .i64 d.room) ∧ w.cell? ⟨p, 1, none⟩ = some L.fv ∧ w.cell? ⟨p, 2, none⟩ = some L.kv ∧ w.cell? ⟨p, 3, none⟩ = some L.wv ∧ w.cell? ⟨p, 4, none⟩ = some (.bool L.out) ∧ w.cell? ⟨p, 5, none⟩ = some (.bool L.armed) ∧ w.cell? ⟨p, 6, none⟩ = some (.int .i64 L.left)) ∧
    w.frozen? ⟨p, 1, none⟩ = false ∧ w.frozen? ⟨p, 2, none⟩ = false ∧ w.frozen? ⟨p, 3, none⟩ = false ∧ w.frozen? ⟨p, 4, none⟩ = false ∧ w.frozen? ⟨p, 5, none⟩ = false ∧ w.frozen? ⟨p, 6, none⟩ = false :=
  ⟨⟨(h.head.cell 0 rfl).1, (h.head.cell 1 rfl).1, (h.head.cell 2 rfl).1, (h.head.cell 3 rfl).1, (h.head.cell 4 rfl).1, (h.head.cell 5 rfl).1, (h.head.cell 6 rfl).1⟩, (h.head.cell 1 rfl).2, (h.head.cell 2 rfl).2, (h.head.cell 3 rfl).2, (h.head.cell 4 rfl).2, (h.head.cell 5 rfl).2, (h.head.cell 6 rfl).2⟩

/-- The head alone is changed: the power's cells. -/
theorem RefL.setHead {F : Nat → Prop} {w : World} {p : Nat} {L L' : RLay} {d : Dk} (h : RefL F w p L d) (j : Nat) (x : Value) (hL : L'.fv = L.fv ∧ L'.kv = L.kv ∧ L'.wv = L.wv ∧ L'.ps = L.ps ∧ L'.vs = L.vs) (he : (rheadC L d.room).setIfInBounds j x = rheadC L' d.room) : RefL F (w.setCell ⟨p, j, none⟩ x) p L' d := by
  obtain ⟨fv, kv, wv, ps, vs, o, a, l⟩ := L
  obtain ⟨fv', kv', wv', ps', vs', o', a', l'⟩ := L'
  obtain ⟨e1, e2, e3, e4, e5⟩ := hL
  dsimp only at e1 e2 e3 e4 e5
  subst e1 e2 e3 e4 e5
  have hne : ∀ {t : TypeId} {k : Nat} {cs : Array Value}, Bk t w k cs → t ≠ 42 → (w.setCell ⟨p, j, none⟩ x).heap[k]? = w.heap[k]? := fun hb ht => Below.heap_setCell _ _ _ _ (hb.ne h.head ht)
  have hrow : ∀ {t : TypeId} {s n g : Nat} {v : Value} {xs : List Value}, w.ownsRow 0 t s v n xs → v.ownBlock = some g → t ≠ 42 → (w.setCell ⟨p, j, none⟩ x).heap[g]? = w.heap[g]? := fun {t s n g v xs} hr hg ht => by
    rcases hr.2 with ⟨hv, _⟩ | ⟨g', cap, cur, hv, _, hb, _⟩
    · rw [hv] at hg; cases hg
    · rw [hv] at hg
      obtain rfl : g' = g := by simpa [Value.ownBlock] using hg
      exact hne hb ht
  refine ⟨by rw [← he]; exact h.head.set j x, ownsRow_keep h.files fun g hg => hrow h.files hg (by decide), ownsRow_keep h.kept fun g hg => hrow h.kept hg (by decide), ownsRow_keep h.waits fun g hg => hrow h.waits hg (by decide),
    fun i hi => (h.file i hi).keep (hne (h.file i hi).box (by decide)) fun g hg => hrow (h.file i hi).own hg (by decide), h.psn, h.vsn, h.fh, h.ff, h.fk, h.fw, h.fp, h.fb, fun k hf => by simpa using h.lt k hf⟩

end Go.Proofs.Ytfhgjnfichgdiaa
