/- Diff's boxes (ferrymanref10): both snapshots, the answer, the delta. -/
import Derived.Test.YtgpdbboieokldaaRef10F
import Derived.Test.YtgpdbboieokldaaDeltaDiffA
import Derived.Test.YtgpdbboieokldaaRef09N
namespace Go.Proofs.Ytgpdbboieokldaa
open Go.RowKit

/-- Diff's boxes: both snapshots, and the answer, which is nought. -/
structure DfA (w W : World) (A B : Array Value) : Prop where
  fst : Bn W w.heap.size A
  snd : Bn W (w.heap.size + 1) B
  res : Bd W (w.heap.size + 1 + 1) #[.int .i64 0, .int .i64 0, .int .i64 0, .int .i64 0, .slice none 0 0, .bool false, .int .i64 0, .slice none 0 0]
  below : Below w.heap.size w W

theorem DfA.more {w W W' : World} {A B : Array Value} (h : DfA w W A B) (hb : Below W.heap.size W W') : DfA w W' A B :=
  ⟨h.fst.below hb (Nat.le_refl _), h.snd.below hb (Nat.le_refl _), h.res.below hb (Nat.le_refl _), h.below.trans (hb.mono h.below.size)⟩

theorem DfA.moreB {w W W' : World} {A B : Array Value} (h : DfA w W A B) {C : Nat} (hC : w.heap.size + 1 + 1 < C) (hb : Below C W W') : DfA w W' A B :=
  ⟨(hb.block _ (by omega)).trans h.fst, (hb.block _ (by omega)).trans h.snd, (hb.block _ hC).trans h.res, h.below.trans (hb.mono (by omega))⟩

/-- .. and the delta's own box. -/
structure DfB (w W : World) (A B : Array Value) (D : Nat) (cs : Array Value) : Prop where
  base : DfA w W A B
  box : Bd W D cs
  far : w.heap.size + 1 + 1 < D

theorem DfB.more {w W W' : World} {A B cs : Array Value} {D : Nat} (h : DfB w W A B D cs) (hb : Below W.heap.size W W') : DfB w W' A B D cs :=
  ⟨h.base.more hb, h.box.below hb (Nat.le_refl _), h.far⟩

theorem DfB.moreB {w W W' : World} {A B cs : Array Value} {D : Nat} (h : DfB w W A B D cs) {C : Nat} (hC : D < C) (hb : Below C W W') : DfB w W' A B D cs :=
  ⟨h.base.moreB (by have := h.far; omega) hb, (hb.block _ hC).trans h.box, h.far⟩

theorem DfB.drewN {w W : World} {A B cs : Array Value} {D : Nat} (h : DfB w W A B D cs) (n : Nat) : DfB w (W.drewN n) A B D cs :=
  h.more (below_drewN (Below.refl W.heap.size W) n)

theorem DfB.setBox {w W : World} {A B cs : Array Value} {D : Nat} (h : DfB w W A B D cs) (j : Nat) (x : Value) : DfB w (W.setCell ⟨D, j, none⟩ x) A B D (cs.setIfInBounds j x) :=
  ⟨⟨h.base.fst.other _ _ (by have := h.far; omega), h.base.snd.other _ _ (by have := h.far; omega), h.base.res.other _ _ (by have := h.far; omega), h.base.below.setCell (show w.heap.size ≤ D by have := h.far; omega) _⟩, h.box.set _ _, h.far⟩

theorem DfA.start (w : World) (A B : Array Value) : DfA w (((w.alloc (.cells A 27)).alloc (.cells B 27)).alloc (.cells #[.int .i64 0, .int .i64 0, .int .i64 0, .int .i64 0, .slice none 0 0, .bool false, .int .i64 0, .slice none 0 0] 31)) A B := by
  obtain ⟨h1, h2, h3⟩ := new_three w (.cells A 27) (.cells B 27) (.cells #[.int .i64 0, .int .i64 0, .int .i64 0, .int .i64 0, .slice none 0 0, .bool false, .int .i64 0, .slice none 0 0] 31)
  exact ⟨h1, h2, h3, below_three w _ _ _⟩

theorem DfA.box {w W : World} {A B : Array Value} (h : DfA w W A B) (cs : Array Value) : DfB w (W.alloc (.cells cs 31)) A B W.heap.size cs :=
  ⟨h.more ((Below.refl _ _).alloc (Nat.le_refl _) _), heap_alloc_new W _, h.res.lt⟩

theorem step_append_ent {ops : Array Oper} {o : Oper} {a : Act} {w : World} {K : Act → World → Prop} {Q : Exit → Act → World → Prop} {E : Prop}
    (hg : o.guard = none) (s x : Operand) (hop : o.op = Op.call { callee := Callee.builtin Builtin.append, args := #[s, x], argTypes := #[25, 25] })
    (B : Nat) (v : Value) (l : List Ent) (hs : a.eval s = v) (r : Ent) (W0 : World) (hw0 : w = W0.alloc (.cells (entC r) 55)) (hown : OwnE W0 B v l) (hx : a.eval x = .slice (some ⟨W0.heap.size, 0, none⟩) 1 1)
    (hlim : l.length ≤ 1000000) (hbase : B ≤ W0.heap.size)
    (hK : ∀ v' w', OwnE w' B v' (l ++ [r]) → Below B W0 w' → K (a.put o.dst v') w') :
    if Region.wanted o (yielded ops a.tmps) = true then Oper.wp Try.prog o a w K Q else E := by
  have hw : Region.wanted o (yielded ops a.tmps) = true := by simp [Region.wanted, hg]
  rw [if_pos hw]
  subst hw0
  obtain ⟨v', w', hrun, h2, h3⟩ := run_append_ent W0 o.type B v l hown r hlim hbase
  unfold Oper.wp execOp
  simp only [hop, resolve, invoke, builtin, Sem.run_bind, Sem.run_pure, Result.andThen_ok, List.map_toArray, List.map_cons, List.map_nil, hs, hx, hrun]
  exact hK v' w' h2 h3

theorem RdI.keepG {w w' : World} {v : Value} {l : List Int} (h : RdI w v l) (hk : ∀ g, v.ownBlock = some g → w'.heap[g]? = w.heap[g]?) : RdI w' v l := by
  obtain ⟨ao, cap, rfl, h2, h3, hn, hw, h4⟩ := h
  refine ⟨ao, cap, rfl, h2, h3, hn, hw, ?_⟩
  rcases h4 with h4 | ⟨b, off, rfl, h6⟩
  · exact .inl h4
  · refine .inr ⟨b, off, rfl, fun j hj => ?_⟩
    rw [World.cell?_of_block (a := ⟨b, off + j, none⟩) (hk b rfl)]
    exact h6 j hj

theorem Be.set3 {w : World} {b : Nat} {cs : Array Value} (h : Be w b cs) (j : Nat) (x : Value) : Be (w.setCell ⟨b, j, none⟩ x) b (cs.setIfInBounds j x) := by
  have := heap_setCell_same w b j _ _ x h
  unfold Be
  simpa using this

theorem ownE_keepG {w w' : World} {B : Nat} {v : Value} {l : List Ent} (h : OwnE w B v l) (hk : ∀ g, v.ownBlock = some g → w'.heap[g]? = w.heap[g]?) : OwnE w' B v l := by
  obtain ⟨h1, h2⟩ := h
  refine ⟨h1, ?_⟩
  rcases h2 with h2 | ⟨g, cap, cur, hv, hbg, hg, r⟩
  · exact .inl h2
  · exact .inr ⟨g, cap, cur, hv, hbg, (hk g (by rw [hv]; rfl)).trans hg, r⟩

theorem covers_getD {a b : List Ent} (h : ∀ j, j < a.length → (findE b (a.getD j zeroE).proc).isSome = true) : Covers a b := by
  intro x hx
  obtain ⟨j, hj, rfl⟩ := List.getElem_of_mem hx
  have h1 := h j hj
  rw [findE_isSome, decide_eq_true_iff] at h1
  have e : a.getD j zeroE = a[j] := by simp [List.getD, hj]
  rw [e] at h1
  exact h1

theorem covers_not {a b : List Ent} {j : Nat} (hj : j < a.length) (h : (findE b (a.getD j zeroE).proc).isSome = false) : ¬ Covers a b := by
  intro hc
  have e : a.getD j zeroE = a[j] := by simp [List.getD, hj]
  obtain ⟨y, hy, hp⟩ := hc a[j] (List.getElem_mem hj)
  rw [findE_isSome, decide_eq_false_iff_not] at h
  exact h ⟨y, hy, by rw [e]; exact hp⟩

/-- What is answered by entry, in one word. -/
theorem entry_one (vt : Value) (t : List Ent) (p : Int) (F : Bool) (x : Ent) (hF : F = (findE t p).isSome) (hx : x = (findE t p).getD zeroE) (w : World) (ht : RdE w vt t) :
    Calls Try.prog 30 #[vt, .int .i64 p] w fun e w' => ∃ v', e = .returned v' ∧ v' = .tuple #[.agg #[.int .i64 x.proc, .int .i64 x.seq, .int .i64 x.resp], .bool F] ∧ Below w.heap.size w w' := by
  refine (entry_any vt t p w ht).mono ?_
  rintro e w' ⟨rfl, hb⟩
  subst hF hx
  exact ⟨_, rfl, rfl, hb⟩

end Go.Proofs.Ytgpdbboieokldaa
