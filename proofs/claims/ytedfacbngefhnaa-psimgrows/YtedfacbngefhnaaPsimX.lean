/- The statements' run: its rows beside the engine. -/
import Derived.Test.YtedfacbngefhnaaPsimW
import Derived.Laws.OwnMore
import Derived.Laws.MakeOwn
namespace Go.Proofs.Ytedfacbngefhnaa
open Go.RowKit Go.Maps

def calC (c : Cal) : Array Value := #[.int .i64 c.p, .int .i64 c.seq, .int .i64 c.from_, .int .i64 c.to_, .int .i64 c.resp, .int .i64 c.op.code, .int .i64 c.op.a, .int .i64 c.op.b]

def calCells : List Cal → List Value
  | [] => []
  | c :: r => (calC c).toList ++ calCells r

theorem calCells_length : ∀ l : List Cal, (calCells l).length = l.length * 8
  | [] => rfl
  | c :: r => by
    rw [calCells, List.length_append, calCells_length r, List.length_cons]
    simp [calC]
    omega

theorem calCells_app : ∀ a b : List Cal, calCells (a ++ b) = calCells a ++ calCells b
  | [], b => rfl
  | c :: r, b => by rw [List.cons_append, calCells, calCells_app r b, calCells, List.append_assoc]

theorem calCells_get : ∀ (l : List Cal) (j k : Nat), j < l.length → k < 8 → (calCells l)[j * 8 + k]? = (calC (l.getD j noCal))[k]?
  | c :: r, 0, k, _, hk => by
    rw [calCells, Nat.zero_mul, Nat.zero_add, List.getElem?_append_left (by simpa [calC] using hk)]
    simp [List.getD]
  | c :: r, j + 1, k, hj, hk => by
    have e : (j + 1) * 8 + k = (calC c).toList.length + (j * 8 + k) := by simp [calC]; omega
    rw [calCells, e, List.getElem?_append_right (Nat.le_add_right _ _), Nat.add_sub_cancel_left, calCells_get r j k (by simpa using hj) hk]
    simp [List.getD]

theorem calCells_set3 : ∀ (l : List Cal) (j : Nat) (c : Cal) (t : Int), l[j]? = some c → (calCells l).set (j * 8 + 3) (.int .i64 t) = calCells (l.set j { c with to_ := t })
  | d :: r, 0, c, t, h => by
    simp at h
    subst h
    rw [calCells, List.set_cons_zero, calCells, Nat.zero_mul, Nat.zero_add, List.set_append_left _ _ (by simp [calC])]
    rfl
  | d :: r, j + 1, c, t, h => by
    simp at h
    have e : (j + 1) * 8 + 3 = (calC d).toList.length + (j * 8 + 3) := by simp [calC]; omega
    rw [calCells, List.set_cons_succ, calCells, e, List.set_append_right _ _ (by omega), Nat.add_sub_cancel_left, calCells_set3 r j c t h]

theorem calCells_set4 : ∀ (l : List Cal) (j : Nat) (c : Cal) (t : Int), l[j]? = some c → (calCells l).set (j * 8 + 4) (.int .i64 t) = calCells (l.set j { c with resp := t })
  | d :: r, 0, c, t, h => by
    simp at h
    subst h
    rw [calCells, List.set_cons_zero, calCells, Nat.zero_mul, Nat.zero_add, List.set_append_left _ _ (by simp [calC])]
    rfl
  | d :: r, j + 1, c, t, h => by
    simp at h
    have e : (j + 1) * 8 + 4 = (calC d).toList.length + (j * 8 + 4) := by simp [calC]; omega
    rw [calCells, List.set_cons_succ, calCells, e, List.set_append_right _ _ (by omega), Nat.add_sub_cancel_left, calCells_set4 r j c t h]

theorem OwnI.storeV {w : World} {g n cap : Nat} {l : List Int} (h : OwnI w 0 (.slice (some ⟨g, 0, none⟩) n cap) l) (j : Nat) (x : Int) : OwnI (w.setCell ⟨g, j, none⟩ (.int .i64 x)) 0 (.slice (some ⟨g, 0, none⟩) n cap) (l.set j x) := by
  have hn : n = l.length := by
    rcases h.2 with ⟨hv, _⟩ | ⟨_, _, _, hv, _⟩
    · simp at hv
    · simp only [Value.slice.injEq] at hv
      exact hv.2.1
  subst hn
  have := (World.ownsRow.stored h j (.int .i64 x)).1
  unfold OwnI
  rw [List.length_set]
  have e : intCells (l.set j x) = (intCells l).set j (.int .i64 x) := by simp [intCells, List.map_set]
  rw [e]
  exact this

set_option maxRecDepth 100000 in
theorem run_make_intsV (w : World) (n : Nat) (hn : n ≤ 1000000) : (Instr.makeSlice 22 (.int .i64 (n : Int)) (.int .i64 (n : Int))).run Try.prog w = .ok (.slice (some ⟨w.heap.size, 0, none⟩) n n) (w.alloc (.cells (intCells (List.replicate n 0)).toArray 3)) := by
  obtain ⟨i0, hi, hz0, hz1, hz2⟩ := info_parts info_i64
  have h := run_make (P := Try.prog) w 22 3 i0 (.int .i64 0) Try.underlying22 hi hz0 .i64 .i64 (n : Int) (n : Int) (by omega) (Int.le_refl _) (by rw [hz2]; omega) (by omega)
  rw [Int.toNat_natCast, hz1, Nat.mul_one] at h
  rw [h]
  congr 3
  apply Array.ext'
  show (madeCells #[Value.int .i64 0] n).toList = _
  rw [toList_madeCells_one]
  simp [intCells]

/-- Operations in a row of the call's own. -/
def OwnC (w : World) (v : Value) (l : List Cal) : Prop := w.ownsRow 0 51 8 v l.length (calCells l)

theorem info_cal : (Try.prog.info? 51).map (fun i => (i.zero, i.size, i.bytes)) = some (some (.agg #[.int .i64 0, .int .i64 0, .int .i64 0, .int .i64 0, .int .i64 0, .int .i64 0, .int .i64 0, .int .i64 0]), 8, 64) := by kernel_rfl

/-- A history's rows beside the engine. -/
structure RunM (K : Nat → Prop) (w : World) (eb n gm go_ : Nat) (vo : Value) (R : RunS Eg) (N : Nat) : Prop where
  eng : EgM (fun k => K k ∨ k = gm ∨ k = go_ ∨ vo.ownBlock = some k) w eb R.e N
  many : OwnI w 0 (.slice (some ⟨gm, 0, none⟩) n n) R.many
  opn : OwnI w 0 (.slice (some ⟨go_, 0, none⟩) n n) R.opn
  out : OwnC w vo R.out
  ne : gm ≠ go_

theorem RunM.apart {K : Nat → Prop} {w : World} {eb n gm go_ : Nat} {vo : Value} {R : RunS Eg} {N : Nat} (h : RunM K w eb n gm go_ vo R N) : vo.ownBlock ≠ some gm ∧ vo.ownBlock ≠ some go_ ∧ gm < w.heap.size ∧ go_ < w.heap.size ∧ ∀ g, vo.ownBlock = some g → g < w.heap.size := by
  obtain ⟨c1, b1⟩ := row_bk h.many (g := gm) rfl
  obtain ⟨c2, b2⟩ := row_bk h.opn (g := go_) rfl
  refine ⟨fun e1 => ?_, fun e1 => ?_, b1.lt, b2.lt, fun g hg => (row_bk h.out hg).choose_spec.lt⟩
  · exact ((row_bk h.out e1).choose_spec.ne b1 (by decide)) rfl
  · exact ((row_bk h.out e1).choose_spec.ne b2 (by decide)) rfl

/-- What the engine's own calls leave of the rows. -/
theorem RunM.eng' {K : Nat → Prop} {w W : World} {eb n gm go_ : Nat} {vo : Value} {R : RunS Eg} {N N' : Nat} (h : RunM K w eb n gm go_ vo R N) {e' : Eg} (he : EgM (fun k => K k ∨ k = gm ∨ k = go_ ∨ vo.ownBlock = some k) W eb e' N')
    (ho : Only (fun k => ¬ (K k ∨ k = gm ∨ k = go_ ∨ vo.ownBlock = some k)) w W) : RunM K W eb n gm go_ vo { R with e := e' } N' := by
  obtain ⟨a1, a2, a3, a4, a5⟩ := h.apart
  refine ⟨he, ownsRow_keep h.many fun g hg => ?_, ownsRow_keep h.opn fun g hg => ?_, ownsRow_keep h.out fun g hg => ?_, h.ne⟩
  · obtain rfl : gm = g := Option.some.inj hg
    exact ho.block _ a3 fun k => k (.inr (.inl rfl))
  · obtain rfl : go_ = g := Option.some.inj hg
    exact ho.block _ a4 fun k => k (.inr (.inr (.inl rfl)))
  · exact ho.block _ (a5 g hg) fun k => k (.inr (.inr (.inr hg)))

/-- A number of 'many' is told anew. -/
theorem RunM.setMany {K : Nat → Prop} {w : World} {eb n gm go_ : Nat} {vo : Value} {R : RunS Eg} {N : Nat} (h : RunM K w eb n gm go_ vo R N) (j : Nat) (x : Int) : RunM K (w.setCell ⟨gm, j, none⟩ (.int .i64 x)) eb n gm go_ vo { R with many := R.many.set j x } N := by
  obtain ⟨a1, a2, a3, a4, a5⟩ := h.apart
  have ho : Only (fun k => k = gm) w (w.setCell ⟨gm, j, none⟩ (.int .i64 x)) := (Only.refl (fun k => k = gm) w).setCell j (fun _ => rfl) _
  refine ⟨h.eng.only ho fun k hk => .inr (.inl hk), h.many.storeV j x, ownsRow_keep h.opn fun g hg => ?_, ownsRow_keep h.out fun g hg => ?_, h.ne⟩
  · obtain rfl : go_ = g := Option.some.inj hg
    exact Below.heap_setCell _ _ _ _ h.ne.symm
  · exact Below.heap_setCell _ _ _ _ (fun e1 : g = gm => a1 (by rw [← e1]; exact hg))

theorem RunM.setOpn {K : Nat → Prop} {w : World} {eb n gm go_ : Nat} {vo : Value} {R : RunS Eg} {N : Nat} (h : RunM K w eb n gm go_ vo R N) (j : Nat) (x : Int) : RunM K (w.setCell ⟨go_, j, none⟩ (.int .i64 x)) eb n gm go_ vo { R with opn := R.opn.set j x } N := by
  obtain ⟨a1, a2, a3, a4, a5⟩ := h.apart
  have ho : Only (fun k => k = go_) w (w.setCell ⟨go_, j, none⟩ (.int .i64 x)) := (Only.refl (fun k => k = go_) w).setCell j (fun _ => rfl) _
  refine ⟨h.eng.only ho fun k hk => .inr (.inr (.inl hk)), ownsRow_keep h.many fun g hg => ?_, h.opn.storeV j x, ownsRow_keep h.out fun g hg => ?_, h.ne⟩
  · obtain rfl : gm = g := Option.some.inj hg
    exact Below.heap_setCell _ _ _ _ h.ne
  · exact Below.heap_setCell _ _ _ _ (fun e1 : g = go_ => a2 (by rw [← e1]; exact hg))

/-- A field of an operation is told anew. -/
theorem RunM.setOut {K : Nat → Prop} {w : World} {eb n gm go_ g cap : Nat} {R : RunS Eg} {N : Nat} {m : Nat} (h : RunM K w eb n gm go_ (.slice (some ⟨g, 0, none⟩) m cap) R N) (j : Nat) (u : Value) (l' : List Cal) (hl : l'.length = R.out.length) (hs : (calCells R.out).set j u = calCells l') : RunM K (w.setCell ⟨g, j, none⟩ u) eb n gm go_ (.slice (some ⟨g, 0, none⟩) m cap) { R with out := l' } N := by
  obtain ⟨a1, a2, a3, a4, a5⟩ := h.apart
  have hm : m = R.out.length := by
    rcases h.out.2 with ⟨hv, _⟩ | ⟨_, _, _, hv, _⟩
    · simp at hv
    · simp only [Value.slice.injEq] at hv
      exact hv.2.1
  have ho : Only (fun k => k = g) w (w.setCell ⟨g, j, none⟩ u) := (Only.refl (fun k => k = g) w).setCell j (fun _ => rfl) _
  refine ⟨h.eng.only ho fun k hk => .inr (.inr (.inr (by rw [hk]; rfl))), ownsRow_keep h.many fun b hb => ?_, ownsRow_keep h.opn fun b hb => ?_, ?_, h.ne⟩
  · obtain rfl : gm = b := Option.some.inj hb
    exact Below.heap_setCell _ _ _ _ (fun e1 : gm = g => a1 (by rw [e1]; rfl))
  · obtain rfl : go_ = b := Option.some.inj hb
    exact Below.heap_setCell _ _ _ _ (fun e1 : go_ = g => a2 (by rw [e1]; rfl))
  · unfold OwnC
    rw [hl, ← hs]
    have h0 := h.out
    unfold OwnC at h0
    rw [← hm] at h0 ⊢
    exact (World.ownsRow.stored h0 j u).1

/-- An operation more. -/
theorem RunM.addOut {K : Nat → Prop} {w W : World} {eb n gm go_ : Nat} {vo vo' : Value} {R : RunS Eg} {N : Nat} {c : Cal} (h : RunM K w eb n gm go_ vo R N)
    (hr : W.ownsRow 0 51 8 vo' (R.out.length + 1) (calCells R.out ++ (calC c).toList)) (hg : (w.alloc (.cells (calC c) 51)).grownBy W vo.ownBlock) (hv : vo'.ownBlock = vo.ownBlock ∨ vo'.ownBlock = some (w.heap.size + 1)) :
    RunM K W eb n gm go_ vo' { R with out := R.out ++ [c] } N ∧ Only (fun k => vo.ownBlock = some k) w W := by
  obtain ⟨a1, a2, a3, a4, a5⟩ := h.apart
  have ho : Only (fun k => vo.ownBlock = some k) w W := grown_only hg
  have h1 := h.eng.fresh.only ho fun k hk => .inl (.inr (.inr (.inr hk)))
  refine ⟨⟨h1.weaken fun k hk => ?_, ownsRow_keep h.many fun b hb => ?_, ownsRow_keep h.opn fun b hb => ?_, ?_, h.ne⟩, ho⟩
  · rcases hk with hk | hk | hk | hk
    · exact .inl (.inl hk)
    · exact .inl (.inr (.inl hk))
    · exact .inl (.inr (.inr (.inl hk)))
    · rcases hv with hv | hv
      · exact .inl (.inr (.inr (.inr (by rw [← hv]; exact hk))))
      · rw [hv] at hk
        have := Option.some.inj hk
        exact .inr (by omega)
  · obtain rfl : gm = b := Option.some.inj hb
    exact ho.block _ a3 a1
  · obtain rfl : go_ = b := Option.some.inj hb
    exact ho.block _ a4 a2
  · unfold OwnC
    rw [List.length_append, calCells_app]
    have e1 : calCells [c] = (calC c).toList := by unfold calCells calCells; simp
    rw [e1]
    exact hr

end Go.Proofs.Ytedfacbngefhnaa
