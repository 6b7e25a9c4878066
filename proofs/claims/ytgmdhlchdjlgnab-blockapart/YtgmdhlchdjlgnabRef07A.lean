/- Contracts of ferrymanref07: last, Fits. -/
import Derived.Test.YtgmdhlchdjlgnabBlockBase
namespace Go.Proofs.Ytgmdhlchdjlgnab
open Go.RowKit

theorem takeR_snoc {l : List Rec} {q : Nat} (h : q < l.length) : l.take (q + 1) = l.take q ++ [l.getD q zeroR] := by
  rw [List.take_add_one]
  simp [List.getD, h]

theorem chain_get : ∀ (l : List Rec) (i : Int) (j : Nat), chainR i l → j < l.length → (l.getD j zeroR).idx = i + j
  | r :: t, i, 0, h, _ => by
    have := h.1
    simp [List.getD, this]
  | r :: t, i, j + 1, h, hj => by
    have := chain_get t (i + 1) j h.2 (by simpa using hj)
    simp only [List.getD, List.getElem?_cons_succ] at this ⊢
    rw [this]
    omega

theorem chain_snoc : ∀ (l : List Rec) (i : Int) (r : Rec), chainR i (l ++ [r]) ↔ chainR i l ∧ r.idx = i + l.length
  | [], i, r => by simp [chainR]
  | s :: t, i, r => by
    rw [List.cons_append, chainR, chainR, chain_snoc t (i + 1) r, List.length_cons, and_assoc]
    constructor
    · rintro ⟨h1, h2, h3⟩
      exact ⟨h1, h2, by omega⟩
    · rintro ⟨h1, h2, h3⟩
      exact ⟨h1, h2, by omega⟩

theorem chain_take : ∀ (l : List Rec) (i : Int) (k : Nat), chainR i l → chainR i (l.take k)
  | _, _, 0, _ => by simp [chainR]
  | [], _, k + 1, _ => by simp [chainR]
  | r :: t, i, k + 1, h => by
    rw [List.take_succ_cons]
    exact ⟨h.1, chain_take t (i + 1) k h.2⟩

/-- The first records fit, one behind the other. -/
def partB (l : List Rec) (k : Nat) : Prop := (∀ r ∈ l.take k, FitsR r) ∧ chainR (l.headD zeroR).idx (l.take k)

theorem partB_zero (l : List Rec) : partB l 0 := ⟨fun r h => by simp at h, by simp [chainR]⟩

theorem partB_next {l : List Rec} {k : Nat} (hk : k < l.length) : partB l (k + 1) ↔ partB l k ∧ FitsR (l.getD k zeroR) ∧ (l.getD k zeroR).idx = (l.headD zeroR).idx + k := by
  unfold partB
  rw [takeR_snoc hk, chain_snoc]
  have hl : (l.take k).length = k := by simp; omega
  rw [hl]
  constructor
  · rintro ⟨h1, h2, h3⟩
    exact ⟨⟨fun r hr => h1 r (by simp [hr]), h2⟩, h1 _ (by simp), h3⟩
  · rintro ⟨⟨h1, h2⟩, h3, h4⟩
    refine ⟨fun r hr => ?_, h2, h4⟩
    rcases List.mem_append.1 hr with h | h
    · exact h1 r h
    · simp only [List.mem_singleton] at h
      rw [h]
      exact h3

theorem partB_all {l : List Rec} (h : partB l l.length) (h1 : 1 ≤ l.length) (h2 : l.length ≤ 256) : FitsB l := by
  unfold partB at h
  rw [List.take_length] at h
  exact ⟨h1, h2, h.1, h.2⟩

theorem FitsB.part {l : List Rec} (h : FitsB l) (k : Nat) : partB l k := ⟨fun r hr => h.2.2.1 r (List.mem_of_mem_take hr), chain_take l _ k h.2.2.2⟩

theorem partB_prev {l : List Rec} {k : Nat} (h : partB l (k + 1)) (hk : k < l.length) : (l.getD k zeroR).idx = (l.headD zeroR).idx + k ∧ FitsR (l.getD k zeroR) := ⟨((partB_next hk).1 h).2.2, ((partB_next hk).1 h).2.1⟩

end Go.Proofs.Ytgmdhlchdjlgnab
