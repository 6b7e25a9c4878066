/- What a call changes of what was there, told by a set of blocks; blocks of cells. -/
import Derived.Test.YtekkmflfhkdkoaaIntBase
namespace Go.Proofs.Ytekkmflfhkdkoaa
open Go.RowKit

/-- Of what was there only blocks of F are changed. -/
structure Only (F : Nat → Prop) (w w' : World) : Prop where
  os : w'.os = w.os
  tape : w'.tape = w.tape
  output : w'.output = w.output
  size : w.heap.size ≤ w'.heap.size
  block : ∀ k, k < w.heap.size → ¬ F k → w'.heap[k]? = w.heap[k]?

theorem Only.refl (F : Nat → Prop) (w : World) : Only F w w := ⟨rfl, rfl, rfl, Nat.le_refl _, fun _ _ _ => rfl⟩

theorem Only.trans {F G : Nat → Prop} {a b c : World} (h : Only F a b) (k : Only G b c) (hG : ∀ x, x < a.heap.size → G x → F x) : Only F a c :=
  ⟨k.os.trans h.os, k.tape.trans h.tape, k.output.trans h.output, Nat.le_trans h.size k.size, fun i hi hn => (k.block i (Nat.lt_of_lt_of_le hi h.size) (fun hg => hn (hG i hi hg))).trans (h.block i hi hn)⟩

theorem Only.mono {F G : Nat → Prop} {w w' : World} (h : Only F w w') (hG : ∀ k, F k → G k) : Only G w w' := ⟨h.os, h.tape, h.output, h.size, fun k hk hn => h.block k hk fun hf => hn (hG k hf)⟩

theorem Only.ofGrown {F : Nat → Prop} {w w' : World} {row : Option Nat} (h : w.grownBy w' row) (hr : ∀ k, row = some k → k < w.heap.size → F k) : Only F w w' :=
  ⟨h.os, h.tape, h.output, h.size, fun k hk hn => h.block k hk fun e => hn (hr k e.symm hk)⟩

theorem Only.ofBelow {F : Nat → Prop} {w w' : World} (h : Below w.heap.size w w') : Only F w w' := ⟨h.os, h.tape, h.output, h.size, fun k hk _ => h.block k hk⟩

theorem Only.below {F : Nat → Prop} {w w' : World} {B : Nat} (h : Only F w w') (hB : B ≤ w.heap.size) (hF : ∀ k, F k → B ≤ k) : Below B w w' :=
  ⟨h.os, h.tape, h.output, h.size, fun k hk => h.block k (Nat.lt_of_lt_of_le hk hB) fun hf => by have := hF k hf; omega⟩

theorem Only.setCell {F : Nat → Prop} {a w : World} (h : Only F a w) {b : Nat} (i : Nat) (hb : b < a.heap.size → F b) (x : Value) : Only F a (w.setCell ⟨b, i, none⟩ x) := by
  have hb0 := (Below.refl 0 w).setCell (p := ⟨b, i, none⟩) (Nat.zero_le _) x
  refine ⟨hb0.os.trans h.os, hb0.tape.trans h.tape, hb0.output.trans h.output, Nat.le_trans h.size hb0.size, fun k hk hn => ?_⟩
  rw [Below.heap_setCell _ _ _ _ (show k ≠ b by rintro rfl; exact hn (hb hk))]
  exact h.block k hk hn

theorem Only.alloc {F : Nat → Prop} {a w : World} (h : Only F a w) (o : Obj) : Only F a (w.alloc o) :=
  h.trans (G := fun _ => False) (Only.ofBelow ((Below.refl _ _).alloc (Nat.le_refl _) o)) (fun _ _ hf => hf.elim)

theorem Only.drewN {F : Nat → Prop} {a w : World} (h : Only F a w) (n : Nat) : Only F a (w.drewN n) := ⟨h.os, h.tape, h.output, h.size, h.block⟩

theorem RdI.only {w w' : World} {v : Value} {l : List Int} (h : RdI w v l) {F : Nat → Prop} (ho : Only F w w') (hv : ∀ k, v.ownBlock = some k → ¬ F k) : RdI w' v l := by
  obtain ⟨ao, cap, rfl, h2, h3, hn, hi, h4⟩ := h
  refine ⟨ao, cap, rfl, h2, h3, hn, hi, ?_⟩
  rcases h4 with h4 | ⟨b, off, rfl, h6⟩
  · exact .inl h4
  · refine .inr ⟨b, off, rfl, fun j hj => ?_⟩
    have hc := h6 j hj
    have hlt : b < w.heap.size := World.block_lt_of_cell? w ⟨b, off + j, none⟩ hc
    rw [World.cell?_of_block (a := ⟨b, off + j, none⟩) (ho.block b hlt (hv b rfl))]
    exact hc

theorem RdI.onlyE {w w' : World} {v : Value} {l : List Int} (h : RdI w v l) {F : Nat → Prop} (ho : Only F w w') (hv : l = [] ∨ ∀ k, v.ownBlock = some k → ¬ F k) : RdI w' v l := by
  rcases hv with rfl | hv
  · obtain ⟨ao, cap, rfl, h2, h3, hn, hi, h4⟩ := h
    exact ⟨ao, cap, rfl, h2, h3, hn, hi, .inl rfl⟩
  · exact h.only ho hv

/-- A block of cells. -/
def Bk (t : TypeId) (w : World) (b : Nat) (cs : Array Value) : Prop := w.heap[b]? = some (.cells cs t (0, 0))

theorem Bk.lt {t : TypeId} {w : World} {b : Nat} {cs : Array Value} (h : Bk t w b cs) : b < w.heap.size := (Array.getElem?_eq_some_iff.1 h).1

theorem Bk.keep {t : TypeId} {w w' : World} {b : Nat} {cs : Array Value} (h : Bk t w b cs) (hk : w'.heap[b]? = w.heap[b]?) : Bk t w' b cs := hk.trans h

theorem Bk.cell {t : TypeId} {w : World} {b : Nat} {cs : Array Value} (h : Bk t w b cs) (j : Nat) {x : Value} (hx : cs[j]? = some x) : w.cell? ⟨b, j, none⟩ = some x ∧ w.frozen? ⟨b, j, none⟩ = false :=
  ⟨(cell_of_row w b j _ _ _ h).trans hx, frozen_of_row w b j _ _ h⟩

theorem Bk.set {t : TypeId} {w : World} {b : Nat} {cs : Array Value} (h : Bk t w b cs) (j : Nat) (x : Value) : Bk t (w.setCell ⟨b, j, none⟩ x) b (cs.setIfInBounds j x) := by
  have := heap_setCell_same w b j _ _ x h
  unfold Bk
  simpa using this

theorem Bk.other {t : TypeId} {w : World} {b : Nat} {cs : Array Value} (h : Bk t w b cs) (c j : Nat) (x : Value) (hne : b ≠ c) : Bk t (w.setCell ⟨c, j, none⟩ x) b cs :=
  (Below.heap_setCell _ _ _ _ hne).trans h

theorem Bk.ne {t t' : TypeId} {w : World} {b b' : Nat} {cs cs' : Array Value} (h : Bk t w b cs) (h' : Bk t' w b' cs') (ht : t ≠ t') : b ≠ b' := by
  rintro rfl
  unfold Bk at h h'
  rw [h] at h'
  simp only [Option.some.injEq, Obj.cells.injEq] at h'
  exact ht h'.2.1

/-- Of a row, if there is one. -/
theorem ownBk {w : World} {base n : Nat} {t : TypeId} {v : Value} {xs : List Value} (h : w.ownsRow base t 1 v n xs) {g : Nat} (hg : v.ownBlock = some g) : ∃ cs, Bk t w g cs := by
  rcases h.2 with ⟨hv, _⟩ | ⟨g', cap, cur, hv, _, hb, _⟩
  · rw [hv] at hg; cases hg
  · rw [hv] at hg
    obtain rfl : g' = g := by simpa [Value.ownBlock] using hg
    exact ⟨cur, hb⟩

theorem ownsRow_keep {w w' : World} {base n s : Nat} {t : TypeId} {v : Value} {xs : List Value} (h : w.ownsRow base t s v n xs) (hk : ∀ g, v.ownBlock = some g → w'.heap[g]? = w.heap[g]?) : w'.ownsRow base t s v n xs := by
  obtain ⟨h1, h2⟩ := h
  refine ⟨h1, ?_⟩
  rcases h2 with h2 | ⟨g, cap, cur, hv, hbg, hg, r⟩
  · exact .inl h2
  · exact .inr ⟨g, cap, cur, hv, hbg, (hk g (by rw [hv]; rfl)).trans hg, r⟩

/-- A pointer to a block. -/
abbrev ptr (b : Nat) : Value := .pointer (some ⟨b, 0, none⟩)

end Go.Proofs.Ytekkmflfhkdkoaa
