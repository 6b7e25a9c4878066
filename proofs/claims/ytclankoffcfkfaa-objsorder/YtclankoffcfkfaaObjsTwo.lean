/- Two states that are kept in two boxes and stepped on: a queue and a stack. -/
import Derived.Test.YtclankoffcfkfaaObjsInts
import Derived.Deep.RegionHeld
namespace Go.Proofs.Ytclankoffcfkfaa
open Go.RowKit

/-- The boxes B and C, laid behind w, hold a queue of the numbers P and a stack of the numbers Q. -/
structure TwoAt (w : World) (B C : Nat) (wr : World) (vq : Value) (P : List Int) (vs : Value) (Q : List Int) : Prop where
  oldB : w.heap.size ≤ B
  oldC : w.heap.size ≤ C
  ne : B ≠ C
  boxB : Bx wr B #[.int .i64 2, vq, .bool false, .int .i64 0]
  boxC : Bx wr C #[.int .i64 3, vs, .bool false, .int .i64 0]
  rdq : RdI wr vq P
  rds : RdI wr vs Q
  below : Below w.heap.size w wr

theorem i64_0 : I64 0 := i64_small (by decide) (by decide)
theorem i64_2 : I64 2 := i64_small (by decide) (by decide)
theorem i64_3 : I64 3 := i64_small (by decide) (by decide)

theorem TwoAt.next {w : World} {B C : Nat} {wr : World} {vq vs : Value} {P Q : List Int} (h : TwoAt w B C wr vq P vs Q) {W : World} (hb : Below wr.heap.size wr W) {v2 v3 : Value} {P' Q' : List Int} (hq : RdI W v2 P') (hs : RdI W v3 Q') (hfq : ∀ b, v2.ownBlock = some b → wr.heap.size ≤ b) (hfs : ∀ b, v3.ownBlock = some b → wr.heap.size ≤ b) :
    TwoAt w B C ((((((((W.setCell ⟨B, 0, none⟩ (.int .i64 2)).setCell ⟨B, 1, none⟩ v2).setCell ⟨B, 2, none⟩ (.bool false)).setCell ⟨B, 3, none⟩ (.int .i64 0)).setCell ⟨C, 0, none⟩ (.int .i64 3)).setCell ⟨C, 1, none⟩ v3).setCell ⟨C, 2, none⟩ (.bool false)).setCell ⟨C, 3, none⟩ (.int .i64 0)) v2 P' v3 Q' := by
  have lB := h.boxB.lt
  have lC := h.boxC.lt
  have hbut : But B C W ((((((((W.setCell ⟨B, 0, none⟩ (.int .i64 2)).setCell ⟨B, 1, none⟩ v2).setCell ⟨B, 2, none⟩ (.bool false)).setCell ⟨B, 3, none⟩ (.int .i64 0)).setCell ⟨C, 0, none⟩ (.int .i64 3)).setCell ⟨C, 1, none⟩ v3).setCell ⟨C, 2, none⟩ (.bool false)).setCell ⟨C, 3, none⟩ (.int .i64 0)) := ((But.refl _ _ _).four _ (.inl rfl) _ _ _ _).four _ (.inr rfl) _ _ _ _
  have hb4 := belowFour (belowFour (h.below.trans (hb.mono h.below.size)) B h.oldB (.int .i64 2) v2 (.bool false) (.int .i64 0)) C h.oldC (.int .i64 3) v3 (.bool false) (.int .i64 0)
  refine ⟨h.oldB, h.oldC, h.ne, ?_, ?_, hq.but hbut (.inr fun b hb => by have := hfq b hb; omega), hs.but hbut (.inr fun b hb => by have := hfs b hb; omega), hb4⟩
  · have e := heap_four W B _ _ _ _ _ (h.boxB.below hb (Nat.le_refl _)) (.int .i64 2) v2 (.bool false) (.int .i64 0)
    refine Eq.trans ?_ e
    rw [Below.heap_setCell _ _ _ _ h.ne, Below.heap_setCell _ _ _ _ h.ne, Below.heap_setCell _ _ _ _ h.ne, Below.heap_setCell _ _ _ _ h.ne]
  · refine heap_four _ C (.int .i64 3) vs (.bool false) (.int .i64 0) _ ?_ _ _ _ _
    rw [Below.heap_setCell _ _ _ _ (Ne.symm h.ne), Below.heap_setCell _ _ _ _ (Ne.symm h.ne), Below.heap_setCell _ _ _ _ (Ne.symm h.ne), Below.heap_setCell _ _ _ _ (Ne.symm h.ne)]
    exact h.boxC.below hb (Nat.le_refl _)

theorem TwoAt.alloc {w : World} {B C : Nat} {wr : World} {vq vs : Value} {P Q : List Int} (h : TwoAt w B C wr vq P vs Q) (X : Obj) : TwoAt w B C (wr.alloc X) vq P vs Q := by
  have hb : Below wr.heap.size wr (wr.alloc X) := (Below.refl _ _).alloc (Nat.le_refl _) X
  exact ⟨h.oldB, h.oldC, h.ne, h.boxB.below hb (Nat.le_refl _), h.boxC.below hb (Nat.le_refl _), h.rdq.below hb (Nat.le_refl _), h.rds.below hb (Nat.le_refl _), h.below.trans (hb.mono h.below.size)⟩

theorem list_may' (k : Int) (hk : k = 2 ∨ k = 3) (l : List Int) (hl : l.length ≤ 64) (hb : ∀ x ∈ l, -1099511627776 ≤ x ∧ x ≤ 1099511627776) : MayS ⟨k, l, false, 0⟩ :=
  ⟨by simp, by simp, fun _ => rfl, by show 0 ≤ k; omega, by show k < 6; omega, (numsOk_list (kind := k) (l := l) (by omega) (by omega)).2 ⟨hl, fun h => by omega, (inBounds_iff _).2 hb⟩⟩

theorem push_is (k : Int) (hk : k = 2 ∨ k = 3) (l : List Int) (hl : l.length < 64) (hb : ∀ x ∈ l, -1099511627776 ≤ x ∧ x ≤ 1099511627776) (x : Int) (h0 : -1099511627776 ≤ x) (h1 : x ≤ 1099511627776) :
    stepS ⟨k, l, false, 0⟩ ⟨3, x, 0⟩ = (⟨k, l ++ [x], false, 0⟩, (l.length : Int) + 1) := by
  rw [step_open (list_may' k hk l (by omega) hb) rfl _ (by simp), if_neg (by show ¬ k ≤ 1; omega), if_pos (by show k ≤ 3; omega)]
  have e : l.length ≠ 64 := by omega
  simp [listS, e, cutZ_same h0 h1]

theorem popq_is (l : List Int) (hl : l.length ≤ 64) (hn : l ≠ []) (hb : ∀ x ∈ l, -1099511627776 ≤ x ∧ x ≤ 1099511627776) : stepS ⟨2, l, false, 0⟩ ⟨4, 0, 0⟩ = (⟨2, l.drop 1, false, 0⟩, l.getD 0 0) := by
  rw [step_open (list_may' 2 (.inl rfl) l hl hb) rfl _ (by simp), if_neg (by simp), if_pos (by simp)]
  unfold listS
  rw [if_neg (by simp), if_pos rfl, if_neg (by simpa using hn), if_pos rfl]

theorem pops_is (l : List Int) (hl : l.length ≤ 64) (hn : l ≠ []) (hb : ∀ x ∈ l, -1099511627776 ≤ x ∧ x ≤ 1099511627776) : stepS ⟨3, l, false, 0⟩ ⟨4, 0, 0⟩ = (⟨3, l.take (l.length - 1), false, 0⟩, l.getD (l.length - 1) 0) := by
  rw [step_open (list_may' 3 (.inr rfl) l hl hb) rfl _ (by simp), if_neg (by simp), if_pos (by simp)]
  unfold listS
  rw [if_neg (by simp), if_pos rfl, if_neg (by simpa using hn), if_neg (by simp)]

end Go.Proofs.Ytclankoffcfkfaa
