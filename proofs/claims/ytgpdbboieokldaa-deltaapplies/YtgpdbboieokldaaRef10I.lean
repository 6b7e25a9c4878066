/- Contract of ferrymanref10: Apply. -/
import Derived.Test.YtgpdbboieokldaaRef10G
import Derived.Test.YtgpdbboieokldaaDeltaApply
import Derived.Deep.DeepCutAuto
namespace Go.Proofs.Ytgpdbboieokldaa
open Go.RowKit

/-- Apply's boxes: a snapshot, a delta, the answer and none, which are nought. -/
structure ApA (w W : World) (A B : Array Value) : Prop where
  fst : Bn W w.heap.size A
  snd : Bd W (w.heap.size + 1) B
  res : Bn W (w.heap.size + 1 + 1) #[.int .i64 0, .int .i64 0, .slice none 0 0, .bool false, .int .i64 0, .slice none 0 0]
  non : Bn W (w.heap.size + 1 + 1 + 1) #[.int .i64 0, .int .i64 0, .slice none 0 0, .bool false, .int .i64 0, .slice none 0 0]
  below : Below w.heap.size w W

theorem ApA.more {w W W' : World} {A B : Array Value} (h : ApA w W A B) (hb : Below W.heap.size W W') : ApA w W' A B :=
  ⟨h.fst.below hb (Nat.le_refl _), h.snd.below hb (Nat.le_refl _), h.res.below hb (Nat.le_refl _), h.non.below hb (Nat.le_refl _), h.below.trans (hb.mono h.below.size)⟩

theorem ApA.moreB {w W W' : World} {A B : Array Value} (h : ApA w W A B) {C : Nat} (hC : w.heap.size + 1 + 1 + 1 < C) (hb : Below C W W') : ApA w W' A B :=
  ⟨(hb.block _ (by omega)).trans h.fst, (hb.block _ (by omega)).trans h.snd, (hb.block _ (by omega)).trans h.res, (hb.block _ hC).trans h.non, h.below.trans (hb.mono (by omega))⟩

/-- .. and the box of what is made. -/
structure ApB (w W : World) (A B : Array Value) (O : Nat) (cs : Array Value) : Prop where
  base : ApA w W A B
  box : Bn W O cs
  far : w.heap.size + 1 + 1 + 1 < O

theorem ApB.more {w W W' : World} {A B cs : Array Value} {O : Nat} (h : ApB w W A B O cs) (hb : Below W.heap.size W W') : ApB w W' A B O cs :=
  ⟨h.base.more hb, h.box.below hb (Nat.le_refl _), h.far⟩

theorem ApB.moreB {w W W' : World} {A B cs : Array Value} {O : Nat} (h : ApB w W A B O cs) {C : Nat} (hC : O < C) (hb : Below C W W') : ApB w W' A B O cs :=
  ⟨h.base.moreB (by have := h.far; omega) hb, (hb.block _ hC).trans h.box, h.far⟩

theorem ApB.setBox {w W : World} {A B cs : Array Value} {O : Nat} (h : ApB w W A B O cs) (j : Nat) (x : Value) : ApB w (W.setCell ⟨O, j, none⟩ x) A B O (cs.setIfInBounds j x) :=
  ⟨⟨h.base.fst.other _ _ (by have := h.far; omega), h.base.snd.other _ _ (by have := h.far; omega), h.base.res.other _ _ (by have := h.far; omega), h.base.non.other _ _ (by have := h.far; omega), h.base.below.setCell (show w.heap.size ≤ O by have := h.far; omega) _⟩, h.box.set _ _, h.far⟩

theorem ApA.start (w : World) (A B : Array Value) : ApA w ((((w.alloc (.cells A 27)).alloc (.cells B 31)).alloc (.cells #[.int .i64 0, .int .i64 0, .slice none 0 0, .bool false, .int .i64 0, .slice none 0 0] 27)).alloc (.cells #[.int .i64 0, .int .i64 0, .slice none 0 0, .bool false, .int .i64 0, .slice none 0 0] 27)) A B := by
  obtain ⟨h1, h2, h3⟩ := new_three w (.cells A 27) (.cells B 31) (.cells #[.int .i64 0, .int .i64 0, .slice none 0 0, .bool false, .int .i64 0, .slice none 0 0] 27)
  have hb := below_three w (.cells A 27) (.cells B 31) (.cells #[.int .i64 0, .int .i64 0, .slice none 0 0, .bool false, .int .i64 0, .slice none 0 0] 27)
  obtain ⟨W, hW⟩ : ∃ W, W = (((w.alloc (.cells A 27)).alloc (.cells B 31)).alloc (.cells #[.int .i64 0, .int .i64 0, .slice none 0 0, .bool false, .int .i64 0, .slice none 0 0] 27)) := ⟨_, rfl⟩
  have hs : W.heap.size = w.heap.size + 1 + 1 + 1 := by rw [hW]; simp
  rw [← hW] at h1 h2 h3 hb ⊢
  have hb2 : Below W.heap.size W (W.alloc (.cells #[.int .i64 0, .int .i64 0, .slice none 0 0, .bool false, .int .i64 0, .slice none 0 0] 27)) := (Below.refl _ _).alloc (Nat.le_refl _) _
  have h4 : Bn (W.alloc (.cells #[.int .i64 0, .int .i64 0, .slice none 0 0, .bool false, .int .i64 0, .slice none 0 0] 27)) W.heap.size #[.int .i64 0, .int .i64 0, .slice none 0 0, .bool false, .int .i64 0, .slice none 0 0] := heap_alloc_new W _
  rw [hs] at h4
  exact ⟨(hb2.block _ (by omega)).trans h1, (hb2.block _ (by omega)).trans h2, (hb2.block _ (by omega)).trans h3, h4, hb.trans (hb2.mono (by omega))⟩

theorem ApA.box {w W : World} {A B : Array Value} (h : ApA w W A B) (cs : Array Value) : ApB w (W.alloc (.cells cs 27)) A B W.heap.size cs :=
  ⟨h.more ((Below.refl _ _).alloc (Nat.le_refl _) _), heap_alloc_new W _, h.non.lt⟩

theorem RdE.keepG {w w' : World} {v : Value} {l : List Ent} (h : RdE w v l) (hk : l = [] ∨ ∀ g, v.ownBlock = some g → w'.heap[g]? = w.heap[g]?) : RdE w' v l := by
  obtain ⟨ao, cap, rfl, h2, h3, hn, hw, h4⟩ := h
  refine ⟨ao, cap, rfl, h2, h3, hn, hw, ?_⟩
  rcases h4 with h4 | ⟨b, off, rfl, h6⟩
  · exact .inl h4
  rcases hk with hk | hk
  · exact .inl hk
  · exact .inr ⟨b, off, rfl, fun j hj => (h6 j hj).keep (hk b rfl)⟩

theorem applyD_made {a : Snap} {d : Delt} (h1 : MayN a) (h2 : CutD d (a.st.L.length : Int)) (h3 : a.idx = d.frm) (h4 : ¬ d.upto < d.frm) : applyD a d = if MayN (madeD a d) then (madeD a d, 0) else (zeroN, 1) := by
  unfold applyD
  obtain ⟨c0, c1, c2⟩ := h2
  rw [if_neg (by rintro (h | h | h | h) <;> first | exact h h1 | omega), if_neg (by rintro (h | h) <;> first | exact h h3 | exact h4 h)]

theorem foldE_snoc {t D : List Ent} {k : Nat} (h : k < D.length) : (D.take (k + 1)).foldl noteL t = noteL ((D.take k).foldl noteL t) (D.getD k zeroE) := by
  rw [takeE_snoc h, List.foldl_append]
  rfl

theorem foldE_len {t : List Ent} : ∀ D : List Ent, (D.foldl noteL t).length ≤ t.length + D.length := by
  intro D
  induction D generalizing t with
  | nil => simp
  | cons e D ih =>
    have h1 := ih (t := noteL t e)
    have h2 := noteL_len t e
    rw [List.foldl_cons, List.length_cons]
    omega

/-- What Apply answers: a snapshot, and an error's number. -/
def GivenN (w : World) (r : Snap × Int) (e : Ending) (w' : World) : Prop := ∃ v, e = .returned (.tuple #[v, .int .i64 r.2]) ∧ SnV w' v r.1 ∧ Below w.heap.size w w'

end Go.Proofs.Ytgpdbboieokldaa
